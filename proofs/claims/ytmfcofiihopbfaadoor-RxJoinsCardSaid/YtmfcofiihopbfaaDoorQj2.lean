/- Several texts in one (Contracts of layer 9: ranges joined; Contracts of layer 9: the classes' codes (printed by tools/gen_codes.py); Contracts of layer 9: numbers and intervals; Contracts of layer 9: what a character behind a backslash means; members of sets, classes; Contracts of layer 9: members and classes of sets; items; Contracts of layer 9: classes and items of sets; Contracts of layer 9: items of sets; Plain: a text whose signs have a backslash ahead reads as its characters; Plain arithmetic of layer 1: what a character is hangs on its own bytes, and on none of those behind that goes on with it). -/
import Derived.Shelf.SlicesQ.IndexFunc
import Derived.Test.YtmfcofiihopbfaaDoorQj1
namespace Go.Proofs.YtmfcofiihopbfaaDoor
open Go.RowKit Go.Lib

theorem info_rng : (Tryd.prog.info? 42).map (fun i => (i.zero, i.size, i.bytes)) = some (some (.agg #[.int .i64 0, .int .i64 0]), 2, 16) := by kernel_rfl
/-- All numbers fit. -/
def Bnd (l : List (Int × Int)) : Prop := ∀ r ∈ l, 0 ≤ r.1 ∧ r.1 ≤ 2000000 ∧ 0 ≤ r.2 ∧ r.2 ≤ 2000000
theorem bnd_step {all : List (Int × Int)} {r : Int × Int} (h : Bnd all) (hr : 0 ≤ r.1 ∧ r.1 ≤ 2000000 ∧ 0 ≤ r.2 ∧ r.2 ≤ 2000000) : Bnd (stepJ all r) := by
  intro q hq
  rcases List.eq_nil_or_concat all with rfl | ⟨ks, u, rfl⟩
  · simp [stepJ] at hq
    rw [hq]; exact hr
  · rw [List.concat_eq_append] at h hq
    have hu := h u (by simp)
    simp only [stepJ, List.getLast?_concat, List.dropLast_concat] at hq
    split at hq
    · rcases List.mem_append.1 hq with hq | hq
      · exact h q (by simp [hq])
      · simp at hq
        rw [hq]
        simp only
        omega
    · rcases List.mem_append.1 hq with hq | hq
      · exact h q hq
      · simp at hq
        rw [hq]; exact hr
/-- The ranges joined so far: a row of its own. -/
theorem own_rng {W : World} {n : Nat} {v : Value} {l : List (Int × Int)} (h : W.ownsRow n 42 2 v l.length (flatR l)) (hl : l.length ≤ 100000) : RgIn W (fun c => n ≤ c) l v := by
  rcases h.2 with ⟨rfl, h0⟩ | ⟨g, cap, cur, rfl, hg, hr, _, _, _, ht⟩
  · have : l = [] := List.length_eq_zero_iff.1 h0
    subst this
    exact RgIn.nil W _ none 0
  · have R := RngR.of_row hr ht
    exact ⟨_, cap, rfl, hl, fun j r hj => ⟨g, rfl, hg, (R j r hj).1.1, (R j r hj).1.2⟩⟩
theorem flat_set (ks : List (Int × Int)) (u : Int × Int) (m : Int) : (flatR (ks ++ [u])).set (ks.length * 2 + 1) (.int .i64 m) = flatR (ks ++ [(u.1, m)]) := by
  rw [flatR_app, flatR_app, List.set_append_right _ _ (by rw [flatR_len]; omega), flatR_len]
  rw [show ks.length * 2 + 1 - ks.length * 2 = 1 by omega]
  rfl
theorem rx_row_new (w : World) (cs : Array Value) (t : TypeId) : ∀ j u, cs.toList[j]? = some u → (w.alloc (.cells cs t)).cell? ((⟨w.heap.size, 0, none⟩ : Addr).add j) = some u := fun j u hu => by
  have hb : Blk (w.alloc (.cells cs t)) w.heap.size cs t := Blk.new w cs t
  rw [show ((⟨w.heap.size, 0, none⟩ : Addr).add j) = ⟨w.heap.size, j, none⟩ by rw [Addr.add_lit, Nat.zero_add], hb.cell]
  rw [← Array.getElem?_toList]
  exact hu
theorem off_grown {g : Nat} {W W1 W2 : World} {r : Option Nat} (h : Off2 g g W W1) (hg : W1.grownBy W2 r) (hr : ∀ q, r = some q → W.heap.size ≤ q) : Off2 g g W W2 :=
  ⟨hg.os.trans h.os, hg.tape.trans h.tape, hg.output.trans h.output, Nat.le_trans h.size hg.size, fun i hi h1 h2 => (hg.block i (Nat.lt_of_lt_of_le hi h.size) (fun e => by have := hr i e.symm; omega)).trans (h.block i hi h1 h2)⟩
theorem RngR.grown {W W' : World} {g : Nat} {l : List (Int × Int)} {r : Option Nat} (h : RngR W g l) (hg : W.grownBy W' r) (hr : r ≠ some g) : RngR W' g l := fun j q hj => by
  obtain ⟨⟨a, b⟩, c, d⟩ := h j q hj
  have hk := hg.block g (World.block_lt_of_cell? W _ a) (fun e => hr e.symm)
  exact ⟨⟨(World.cell?_of_block (a := ⟨g, j * 2, none⟩) hk).trans a, (World.cell?_of_block (a := ⟨g, j * 2 + 1, none⟩) hk).trans b⟩, (World.frozen?_of_block (a := ⟨g, j * 2, none⟩) hk).trans c, (World.frozen?_of_block (a := ⟨g, j * 2 + 1, none⟩) hk).trans d⟩
set_option maxRecDepth 100000 in
set_option maxHeartbeats 2000000 in
theorem rx_joined {W : World} {g : Nat} {l : List (Int × Int)} (h : RngR W g l) (hg : g < W.heap.size) (hl : l.length ≤ 100000) (hb : Bnd l) (hf : Fit l) (cap : Nat) :
    Calls Tryd.prog 35 #[.slice (some ⟨g, 0, none⟩) l.length cap] W fun e w' => ∃ v, e = .returned v ∧ RgIn w' (fun c => W.heap.size ≤ c) (joinR l) v ∧ Off2 g g W w' := by
  have CS := Lib.hid (rx_sort h hg hl cap)
  have HB := Lib.hid hb
  have HF := Lib.hid hf
  obtain ⟨i0, hi, hz0, hz1, hz2⟩ := info_parts info_rng
  clear h hb hf
  go_enter Tryd.func35, Tryd.ntmps35
  go_wp2_with fail
  refine CS.out.mono ?_
  rintro e W1 ⟨rfl, d, hp, hlow, hR, hO⟩
  have HP := Lib.hid hp
  have HL := Lib.hid hlow
  have HR := Lib.hid hR
  have HO := Lib.hid hO
  have hlen : d.length = l.length := hp.length_eq
  have hs1 := hO.size
  clear hp hlow hR hO CS
  go_wp2_with fail
  go_loopw [3, 11] (fun sv kv wr => ∃ (v : Value) (k : Nat) (acc : List (Int × Int)), v = sv ∧ kv = .int .i64 (k : Int) ∧ k ≤ l.length ∧ acc = (d.take k).foldl stepJ [] ∧ wr.ownsRow W.heap.size 42 2 v acc.length (flatR acc) ∧ Off2 g g W wr ∧ RngR wr g d ∧ W1.heap.size ≤ wr.heap.size) (fun _ kv _ => l.length - (RowKit.intOf kv).toNat)
  case atStart => exact ⟨_, 0, [], rfl, rfl, Nat.zero_le _, rfl, World.ownsRow_nil _ _ _ _, HO.out, HR.out, Nat.le_refl _⟩
  case round =>
    obtain ⟨v, k, acc, rfl, rfl, hk, ha, hO, hOff, hRd, hsz⟩ := hrel
    have HA := Lib.hid ha
    clear ha
    by_cases hlt : k < l.length
    · have hkl : k < d.length := by omega
      obtain ⟨r, hr⟩ : ∃ r, d[k] = r := ⟨_, rfl⟩
      have hdk : d[k]? = some r := by rw [List.getElem?_eq_getElem hkl, hr]
      have HN := Lib.hid (show stepJ acc r = (d.take (k + 1)).foldl stepJ [] by
        rw [List.take_succ_eq_append_getElem hkl, List.foldl_append, ← HA.out, hr]
        rfl)
      obtain ⟨⟨c0, c1⟩, _⟩ := hRd k r hdk
      have hrb := HB.out r (HP.out.mem_iff.1 (by rw [← hr]; exact List.getElem_mem hkl))
      have hacc : acc.length ≤ k := by
        have := fold_len (d.take k) []
        rw [← HA.out] at this
        simp at this
        omega
      have hab : Bnd acc := by
        rw [HA.out]
        clear HA HN hO hacc
        have : ∀ (m : List (Int × Int)) (a : List (Int × Int)), Bnd a → (∀ q ∈ m, q ∈ l) → Bnd (m.foldl stepJ a) := by
          intro m
          induction m with
          | nil => exact fun a h _ => h
          | cons q m ih =>
            intro a h hm
            rw [List.foldl_cons]
            exact ih _ (bnd_step h (HB.out q (hm q (by simp)))) (fun z hz => hm z (by simp [hz]))
        exact this _ _ (fun q hq => by simp at hq) (fun q hq => HP.out.mem_iff.1 (List.mem_of_mem_take hq))
      clear hr hdk hkl
      obtain ⟨r1, r2⟩ := r
      simp only at c0 c1 hrb
      have e0 : wr.cell? ⟨g, k * 2, none⟩ = some (.int .i64 r1) := c0
      have hgw : g < wr.heap.size := World.block_lt_of_cell? wr _ c0
      have F0 := Blk.new wr #[.int .i64 r1, .int .i64 r2] 42
      have q0 : (wr.alloc (.cells #[.int .i64 r1, .int .i64 r2] 42)).cell? ⟨wr.heap.size, 0, none⟩ = some (.int .i64 r1) := F0.cell 0
      have q1 : (wr.alloc (.cells #[.int .i64 r1, .int .i64 r2] 42)).cell? ⟨wr.heap.size, 1, none⟩ = some (.int .i64 r2) := F0.cell 1
      obtain ⟨k1, hk1⟩ : ∃ k1, k + 1 = k1 := ⟨_, rfl⟩
      have hwk : IntKind.i64.wrap ((k : Int) + 1) = (k1 : Int) := by simp [IntKind.wrap, IntKind.bits, IntKind.signed]; omega
      have RD := Lib.hid hRd
      have OF := Lib.hid hOff
      have HOW := Lib.hid hO
      have HAB := Lib.hid hab
      clear hRd hOff c0 hab F0
      -- what is appended
      have app : ∀ (na : Nat), acc.length = na → (stepJ acc (r1, r2) = acc ++ [(r1, r2)]) → ∀ (X : World) (v' : Value) (w2 : World), Below wr.heap.size wr X →
          w2.ownsRow W.heap.size 42 2 v' (na + 1) (flatR acc ++ [.int .i64 r1, .int .i64 r2]) → X.grownBy w2 v.ownBlock →
          ∃ (v2 : Value) (k2 : Nat) (acc2 : List (Int × Int)), v2 = v' ∧ Value.int .i64 (k1 : Int) = .int .i64 (k2 : Int) ∧ k2 ≤ l.length ∧ acc2 = (d.take k2).foldl stepJ [] ∧ w2.ownsRow W.heap.size 42 2 v2 acc2.length (flatR acc2) ∧ Off2 g g W w2 ∧ RngR w2 g d ∧ W1.heap.size ≤ w2.heap.size := by
        intro na hna hst X v' w2 b2 ho hgr
        have hfar : ∀ q, v.ownBlock = some q → W.heap.size ≤ q := fun q hq => (HOW.out.lt q hq).1
        refine ⟨v', k1, stepJ acc (r1, r2), rfl, rfl, by omega, by rw [HN.out, hk1], ?_, off_grown (OF.out.trans (Off2.of_below b2)) hgr hfar, (RD.out.below b2 hgw).grown hgr (fun e => by have := hfar _ e; omega), ?_⟩
        · rw [hst, flatR_app, List.length_append, hna]
          exact ho
        · have := b2.size
          have := hgr.size
          omega
      have APP := Lib.hid app
      clear app
      have RN := Lib.hid (fun (nq : Nat) => show ∀ j u, [Value.int .i64 r1, .int .i64 r2][j]? = some u → (((wr.alloc (.cells #[.int .i64 r1, .int .i64 r2] 42)).drewN nq).alloc (.cells #[.int .i64 r1, .int .i64 r2] 42)).cell? ((⟨wr.heap.size + 1, 0, none⟩ : Addr).add j) = some u by
        have := rx_row_new ((wr.alloc (.cells #[.int .i64 r1, .int .i64 r2] 42)).drewN nq) #[.int .i64 r1, .int .i64 r2] 42
        simpa using this)
      have BX := Lib.hid (fun (nq : Nat) => show Below wr.heap.size wr (((wr.alloc (.cells #[.int .i64 r1, .int .i64 r2] 42)).drewN nq).alloc (.cells #[.int .i64 r1, .int .i64 r2] 42)) from (below_drewN ((Below.refl _ _).alloc (Nat.le_refl _) _) nq).alloc (by simp) _)
      have HI := Lib.hid (And.intro hi (And.intro hz0 (And.intro hz1 hz2)))
      obtain ⟨A, cp, hv⟩ : ∃ A cp, v = .slice A acc.length cp := by
        rcases HOW.out.2 with ⟨e, h0⟩ | ⟨q, cp, cur, e, _⟩
        · exact ⟨none, 0, by rw [e, h0]⟩
        · exact ⟨_, _, e⟩
      obtain ⟨na, hna⟩ : ∃ na, acc.length = na := ⟨_, rfl⟩
      by_cases h0 : na = 0
      · have hst : stepJ acc (r1, r2) = acc ++ [(r1, r2)] := by
          obtain rfl : acc = [] := List.length_eq_zero_iff.1 (by omega)
          rfl
        have AP := Lib.hid (APP.out na hna hst)
        have h00 : wr.ownsRow W.heap.size 42 2 v na (flatR acc) := hna ▸ HOW.out
        have HO0 := Lib.hid (fun nq : Nat => (show (((wr.alloc (.cells #[.int .i64 r1, .int .i64 r2] 42)).drewN nq).alloc (.cells #[.int .i64 r1, .int .i64 r2] 42)).ownsRow W.heap.size 42 2 v na (flatR acc) from (show ((wr.alloc (.cells #[.int .i64 r1, .int .i64 r2] 42)).drewN nq).ownsRow W.heap.size 42 2 v na (flatR acc) from h00.alloc _).alloc _))
        clear h00
        obtain ⟨F, hF⟩ : ∃ F, flatR acc = F := ⟨_, rfl⟩
        rw [hF] at AP HO0
        rw [hna] at hv
        subst h0
        subst hv
        clear APP hF hna hO hst HAB HOW HA
        have hw0 : IntKind.i64.wrap ((0 : Int) - 1) = -1 := by decide
        have hneg : ¬ (0 : Int) ≤ -1 := by decide
        go_wp2_with fail
        go_quiet (fail)
        go_wp2_with (at_builtin; refine wpList_append_own_at _ rfl _ _ 27 rfl W.heap.size 42 i0 _ 2 16 Tryd.underlying27 HI.out.1 HI.out.2.1 HI.out.2.2.1 HI.out.2.2.2 rfl (by decide) _ 0 F rfl (HO0.out _) ⟨wr.heap.size + 1, 0, none⟩ 1 1 [.int .i64 r1, .int .i64 r2] rfl rfl (RN.out _) (by simp [Value.oneCell']) (by unfold maxLen; omega) (by omega) (by simp; omega) ?_)
        rintro v' w2 ho hgr _ _
        have HH := Lib.hid (AP.out _ v' w2 (BX.out _) ho hgr)
        clear ho hgr AP HO0 RN BX OF RD
        go_wp2_with fail
        refine ⟨HH.out, ?_⟩
        simp [RowKit.intOf]
        omega
      · obtain ⟨ks, u, hku⟩ : ∃ ks u, acc = ks ++ [u] := by
          rcases List.eq_nil_or_concat acc with h | ⟨ks, u, h⟩
          · rw [h] at hna; exact absurd hna.symm h0
          · exact ⟨ks, u, by rw [h, List.concat_eq_append]⟩
        obtain ⟨u1, u2⟩ := u
        have hkl : ks.length + 1 = na := by rw [← hna, hku]; simp
        obtain ⟨m, hm⟩ : ∃ m, ks.length = m := ⟨_, rfl⟩
        rw [hm] at hkl
        have hub := HAB.out (u1, u2) (by rw [hku]; simp)
        simp only at hub
        rcases HOW.out.2 with ⟨_, e⟩ | ⟨q, cp', cur, e, hq, hrow, hn1, hn2, hn3, hn4⟩
        · omega
        rw [hna] at e hn1 hn4
        subst e
        clear hv
        have hcell := (flatR_at acc m (u1, u2) (by rw [hku, ← hm]; simp)).2
        rw [← hn4, List.getElem?_take_of_lt (by omega), Array.getElem?_toList] at hcell
        have hnak : na ≤ k := hna ▸ hacc
        have g1 : wr.cell? ⟨q, m * 2 + 1, none⟩ = some (.int .i64 u2) := (cell_of_row wr _ _ _ _ _ hrow).trans hcell
        have g1' : (wr.alloc (.cells #[.int .i64 r1, .int .i64 r2] 42)).cell? ⟨q, m * 2 + 1, none⟩ = some (.int .i64 u2) := (Below.cell ((Below.refl wr.heap.size wr).alloc (Nat.le_refl _) _) (p := ⟨q, m * 2 + 1, none⟩) (World.block_lt_of_cell? wr _ g1)).trans g1
        have f1' : (wr.alloc (.cells #[.int .i64 r1, .int .i64 r2] 42)).frozen? ⟨q, m * 2 + 1, none⟩ = false := (Below.frozen ((Below.refl wr.heap.size wr).alloc (Nat.le_refl _) _) (p := ⟨q, m * 2 + 1, none⟩) (World.block_lt_of_cell? wr _ g1)).trans (frozen_of_row wr _ _ _ _ hrow)
        have hwm : IntKind.i64.wrap ((na : Int) - 1) = (m : Int) := by simp [IntKind.wrap, IntKind.bits, IntKind.signed]; omega
        have hm0 : (0 : Int) ≤ (m : Int) := by omega
        have hm1 : (m : Int) < (na : Int) := by omega
        have hm2 : ((m : Int)).toNat = m := by omega
        obtain ⟨u3, hu3⟩ : ∃ u3, u2 + 1 = u3 := ⟨_, rfl⟩
        have hwu : IntKind.i64.wrap (u2 + 1) = u3 := by simp [IntKind.wrap, IntKind.bits, IntKind.signed]; omega
        have h00 : wr.ownsRow W.heap.size 42 2 (.slice (some ⟨q, 0, none⟩) na cp') na (flatR acc) := hna ▸ HOW.out
        by_cases hj : r1 ≤ u3
        · have hst : stepJ acc (r1, r2) = ks ++ [(u1, max u2 r2)] := by
            rw [hku, stepJ]
            simp only [List.getLast?_concat, List.dropLast_concat]
            rw [if_pos (show r1 ≤ u2 + 1 by omega)]
          obtain ⟨mx, hmx⟩ : ∃ mx, max u2 r2 = mx := ⟨_, rfl⟩
          have hjd : decide (r1 ≤ u3) = true := decide_eq_true hj
          have PUT := Lib.hid (fun nq : Nat => show ∃ (v2 : Value) (k2 : Nat) (acc2 : List (Int × Int)), v2 = Value.slice (some ⟨q, 0, none⟩) na cp' ∧ Value.int .i64 (k1 : Int) = .int .i64 (k2 : Int) ∧ k2 ≤ l.length ∧ acc2 = (d.take k2).foldl stepJ [] ∧ (((wr.alloc (.cells #[.int .i64 r1, .int .i64 r2] 42)).drewN nq).setCell ⟨q, m * 2 + 1, none⟩ (.int .i64 mx)).ownsRow W.heap.size 42 2 v2 acc2.length (flatR acc2) ∧ Off2 g g W (((wr.alloc (.cells #[.int .i64 r1, .int .i64 r2] 42)).drewN nq).setCell ⟨q, m * 2 + 1, none⟩ (.int .i64 mx)) ∧ RngR (((wr.alloc (.cells #[.int .i64 r1, .int .i64 r2] 42)).drewN nq).setCell ⟨q, m * 2 + 1, none⟩ (.int .i64 mx)) g d ∧ W1.heap.size ≤ (((wr.alloc (.cells #[.int .i64 r1, .int .i64 r2] 42)).drewN nq).setCell ⟨q, m * 2 + 1, none⟩ (.int .i64 mx)).heap.size by
            have h1 : ((wr.alloc (.cells #[.int .i64 r1, .int .i64 r2] 42)).drewN nq).ownsRow W.heap.size 42 2 (.slice (some ⟨q, 0, none⟩) na cp') na (flatR acc) := h00.alloc _
            obtain ⟨s1, s2⟩ := h1.stored (m * 2 + 1) (.int .i64 mx)
            have b2 : Below wr.heap.size wr ((wr.alloc (.cells #[.int .i64 r1, .int .i64 r2] 42)).drewN nq) := below_drewN ((Below.refl _ _).alloc (Nat.le_refl _) _) nq
            refine ⟨_, k1, stepJ acc (r1, r2), rfl, rfl, by omega, by rw [HN.out, hk1], ?_, off_grown (OF.out.trans (Off2.of_below b2)) s2 (fun z hz => by cases hz; exact hq), (RD.out.below b2 hgw).grown s2 (fun e => by cases e; omega), ?_⟩
            · rw [hst, hmx, ← flat_set ks (u1, u2) mx, ← hku, hm, List.length_append]
              rw [show ks.length + [(u1, mx)].length = na by simp; omega]
              exact s1
            · have := b2.size
              have := s2.size
              omega)
          clear APP hO HOW HAB HA hcell hrow hn4 hku hst h00 RN BX OF RD HN hna hu3
          go_wp2_with fail
          go_quiet (fail)
          go_wp2_with fail
          go_region_law (first | fail)
          all_goals
            go_wp2_with fail
            refine ⟨PUT.out _, ?_⟩
            simp [RowKit.intOf]
            omega
        · have hst : stepJ acc (r1, r2) = acc ++ [(r1, r2)] := by
            rw [hku, stepJ]
            simp only [List.getLast?_concat, List.dropLast_concat]
            rw [if_neg (show ¬ r1 ≤ u2 + 1 by omega)]
          have hjd : decide (r1 ≤ u3) = false := decide_eq_false hj
          have AP := Lib.hid (APP.out na hna hst)
          have HO0 := Lib.hid (fun nq : Nat => (show (((wr.alloc (.cells #[.int .i64 r1, .int .i64 r2] 42)).drewN nq).alloc (.cells #[.int .i64 r1, .int .i64 r2] 42)).ownsRow W.heap.size 42 2 (.slice (some ⟨q, 0, none⟩) na cp') na (flatR acc) from (show ((wr.alloc (.cells #[.int .i64 r1, .int .i64 r2] 42)).drewN nq).ownsRow W.heap.size 42 2 (.slice (some ⟨q, 0, none⟩) na cp') na (flatR acc) from h00.alloc _).alloc _))
          obtain ⟨F, hF⟩ : ∃ F, flatR acc = F := ⟨_, rfl⟩
          rw [hF] at AP HO0
          clear APP hO HOW HAB HA hcell hrow hn4 hku hst h00 hF HN hna hu3
          go_wp2_with fail
          go_quiet (fail)
          go_wp2_with (at_builtin; refine wpList_append_own_at _ rfl _ _ 27 rfl W.heap.size 42 i0 _ 2 16 Tryd.underlying27 HI.out.1 HI.out.2.1 HI.out.2.2.1 HI.out.2.2.2 rfl (by decide) _ na F rfl (HO0.out _) ⟨wr.heap.size + 1, 0, none⟩ 1 1 [.int .i64 r1, .int .i64 r2] rfl rfl (RN.out _) (by simp [Value.oneCell']) (by unfold maxLen; omega) (by omega) (by simp; omega) ?_)
          rintro v' w2 ho hgr _ _
          have HH := Lib.hid (AP.out _ v' w2 (BX.out _) ho hgr)
          clear ho hgr AP HO0 RN BX OF RD
          go_wp2_with fail
          refine ⟨HH.out, ?_⟩
          simp [RowKit.intOf]
          omega
    · have hkn : k = l.length := by omega
      have HD := Lib.hid (show acc = joinR l by
        rw [HA.out, hkn, ← hlen, List.take_length, fold_jn, join_any HP.out HL.out HF.out])
      have hacc : acc.length ≤ 100000 := by
        have := fold_len (d.take k) []
        rw [← HA.out] at this
        simp at this
        omega
      have HG := Lib.hid (own_rng hO hacc)
      have HO2 := Lib.hid hOff
      clear hO hOff hRd hkn
      go_wp2_with fail
      go_ret
      refine ⟨_, rfl, ?_, HO2.out⟩
      rw [← HD.out]
      exact HG.out
end Go.Proofs.YtmfcofiihopbfaaDoor

namespace Go.Proofs.YtmfcofiihopbfaaDoor
open Go.RowKit Go.Lib

/-- The row that 'codes' lays. -/
abbrev codeObj (l : List (Int × Int)) : Obj := .cells (flatR l).toArray 42
theorem ba_of {s : ByteArray} {l : List UInt8} (h : s.data.toList = l) : s = ⟨l.toArray⟩ := by
  cases s
  simp only at h
  rw [← h]

set_option maxRecDepth 100000 in
theorem rx_codes_alpha (W : World) : Calls Tryd.prog 37 #[.string ⟨#[97, 108, 112, 104, 97]⟩] W fun e w' => e = .returned (.slice (some ⟨W.heap.size, 0, none⟩) 2 2) ∧ w' = W.alloc (codeObj [(65, 90), (97, 122)]) := by
  go_enter Tryd.func37, Tryd.ntmps37
  go_wp2_with fail
  go_ret
  exact ⟨rfl, rfl⟩
set_option maxRecDepth 100000 in
theorem rx_codes_digit (W : World) : Calls Tryd.prog 37 #[.string ⟨#[100, 105, 103, 105, 116]⟩] W fun e w' => e = .returned (.slice (some ⟨W.heap.size, 0, none⟩) 1 1) ∧ w' = W.alloc (codeObj [(48, 57)]) := by
  go_enter Tryd.func37, Tryd.ntmps37
  go_wp2_with fail
  go_ret
  exact ⟨rfl, rfl⟩
set_option maxRecDepth 100000 in
theorem rx_codes_alnum (W : World) : Calls Tryd.prog 37 #[.string ⟨#[97, 108, 110, 117, 109]⟩] W fun e w' => e = .returned (.slice (some ⟨W.heap.size, 0, none⟩) 3 3) ∧ w' = W.alloc (codeObj [(48, 57), (65, 90), (97, 122)]) := by
  go_enter Tryd.func37, Tryd.ntmps37
  go_wp2_with fail
  go_ret
  exact ⟨rfl, rfl⟩
set_option maxRecDepth 100000 in
theorem rx_codes_upper (W : World) : Calls Tryd.prog 37 #[.string ⟨#[117, 112, 112, 101, 114]⟩] W fun e w' => e = .returned (.slice (some ⟨W.heap.size, 0, none⟩) 1 1) ∧ w' = W.alloc (codeObj [(65, 90)]) := by
  go_enter Tryd.func37, Tryd.ntmps37
  go_wp2_with fail
  go_ret
  exact ⟨rfl, rfl⟩
set_option maxRecDepth 100000 in
theorem rx_codes_lower (W : World) : Calls Tryd.prog 37 #[.string ⟨#[108, 111, 119, 101, 114]⟩] W fun e w' => e = .returned (.slice (some ⟨W.heap.size, 0, none⟩) 1 1) ∧ w' = W.alloc (codeObj [(97, 122)]) := by
  go_enter Tryd.func37, Tryd.ntmps37
  go_wp2_with fail
  go_ret
  exact ⟨rfl, rfl⟩
set_option maxRecDepth 100000 in
theorem rx_codes_space (W : World) : Calls Tryd.prog 37 #[.string ⟨#[115, 112, 97, 99, 101]⟩] W fun e w' => e = .returned (.slice (some ⟨W.heap.size, 0, none⟩) 2 2) ∧ w' = W.alloc (codeObj [(9, 13), (32, 32)]) := by
  go_enter Tryd.func37, Tryd.ntmps37
  go_wp2_with fail
  go_ret
  exact ⟨rfl, rfl⟩
set_option maxRecDepth 100000 in
theorem rx_codes_blank (W : World) : Calls Tryd.prog 37 #[.string ⟨#[98, 108, 97, 110, 107]⟩] W fun e w' => e = .returned (.slice (some ⟨W.heap.size, 0, none⟩) 2 2) ∧ w' = W.alloc (codeObj [(9, 9), (32, 32)]) := by
  go_enter Tryd.func37, Tryd.ntmps37
  go_wp2_with fail
  go_ret
  exact ⟨rfl, rfl⟩
set_option maxRecDepth 100000 in
theorem rx_codes_punct (W : World) : Calls Tryd.prog 37 #[.string ⟨#[112, 117, 110, 99, 116]⟩] W fun e w' => e = .returned (.slice (some ⟨W.heap.size, 0, none⟩) 4 4) ∧ w' = W.alloc (codeObj [(33, 47), (58, 64), (91, 96), (123, 126)]) := by
  go_enter Tryd.func37, Tryd.ntmps37
  go_wp2_with fail
  go_ret
  exact ⟨rfl, rfl⟩
set_option maxRecDepth 100000 in
theorem rx_codes_print (W : World) : Calls Tryd.prog 37 #[.string ⟨#[112, 114, 105, 110, 116]⟩] W fun e w' => e = .returned (.slice (some ⟨W.heap.size, 0, none⟩) 1 1) ∧ w' = W.alloc (codeObj [(32, 126)]) := by
  go_enter Tryd.func37, Tryd.ntmps37
  go_wp2_with fail
  go_ret
  exact ⟨rfl, rfl⟩
set_option maxRecDepth 100000 in
theorem rx_codes_graph (W : World) : Calls Tryd.prog 37 #[.string ⟨#[103, 114, 97, 112, 104]⟩] W fun e w' => e = .returned (.slice (some ⟨W.heap.size, 0, none⟩) 1 1) ∧ w' = W.alloc (codeObj [(33, 126)]) := by
  go_enter Tryd.func37, Tryd.ntmps37
  go_wp2_with fail
  go_ret
  exact ⟨rfl, rfl⟩
set_option maxRecDepth 100000 in
theorem rx_codes_cntrl (W : World) : Calls Tryd.prog 37 #[.string ⟨#[99, 110, 116, 114, 108]⟩] W fun e w' => e = .returned (.slice (some ⟨W.heap.size, 0, none⟩) 2 2) ∧ w' = W.alloc (codeObj [(0, 31), (127, 127)]) := by
  go_enter Tryd.func37, Tryd.ntmps37
  go_wp2_with fail
  go_ret
  exact ⟨rfl, rfl⟩
set_option maxRecDepth 100000 in
theorem rx_codes_xdigit (W : World) : Calls Tryd.prog 37 #[.string ⟨#[120, 100, 105, 103, 105, 116]⟩] W fun e w' => e = .returned (.slice (some ⟨W.heap.size, 0, none⟩) 3 3) ∧ w' = W.alloc (codeObj [(48, 57), (65, 70), (97, 102)]) := by
  go_enter Tryd.func37, Tryd.ntmps37
  go_wp2_with fail
  go_ret
  exact ⟨rfl, rfl⟩
set_option maxRecDepth 100000 in
set_option maxHeartbeats 4000000 in
theorem rx_codes_none (s : ByteArray) (W : World) (h : clsL s.data.toList = none) : Calls Tryd.prog 37 #[.string s] W fun e w' => e = .returned (.slice none 0 0) ∧ W = w' := by
  unfold clsL at h
  by_cases h0 : s.data.toList = [97, 108, 112, 104, 97]
  · rw [if_pos h0] at h
    cases h
  rw [if_neg h0] at h
  by_cases h1 : s.data.toList = [100, 105, 103, 105, 116]
  · rw [if_pos h1] at h
    cases h
  rw [if_neg h1] at h
  by_cases h2 : s.data.toList = [97, 108, 110, 117, 109]
  · rw [if_pos h2] at h
    cases h
  rw [if_neg h2] at h
  by_cases h3 : s.data.toList = [117, 112, 112, 101, 114]
  · rw [if_pos h3] at h
    cases h
  rw [if_neg h3] at h
  by_cases h4 : s.data.toList = [108, 111, 119, 101, 114]
  · rw [if_pos h4] at h
    cases h
  rw [if_neg h4] at h
  by_cases h5 : s.data.toList = [115, 112, 97, 99, 101]
  · rw [if_pos h5] at h
    cases h
  rw [if_neg h5] at h
  by_cases h6 : s.data.toList = [98, 108, 97, 110, 107]
  · rw [if_pos h6] at h
    cases h
  rw [if_neg h6] at h
  by_cases h7 : s.data.toList = [112, 117, 110, 99, 116]
  · rw [if_pos h7] at h
    cases h
  rw [if_neg h7] at h
  by_cases h8 : s.data.toList = [112, 114, 105, 110, 116]
  · rw [if_pos h8] at h
    cases h
  rw [if_neg h8] at h
  by_cases h9 : s.data.toList = [103, 114, 97, 112, 104]
  · rw [if_pos h9] at h
    cases h
  rw [if_neg h9] at h
  by_cases h10 : s.data.toList = [99, 110, 116, 114, 108]
  · rw [if_pos h10] at h
    cases h
  rw [if_neg h10] at h
  by_cases h11 : s.data.toList = [120, 100, 105, 103, 105, 116]
  · rw [if_pos h11] at h
    cases h
  rw [if_neg h11] at h
  clear h
  replace h0 : (s.toList == [97, 108, 112, 104, 97]) = false := by rw [Lib.toList_data, beq_eq_false_iff_ne]; exact h0
  replace h1 : (s.toList == [100, 105, 103, 105, 116]) = false := by rw [Lib.toList_data, beq_eq_false_iff_ne]; exact h1
  replace h2 : (s.toList == [97, 108, 110, 117, 109]) = false := by rw [Lib.toList_data, beq_eq_false_iff_ne]; exact h2
  replace h3 : (s.toList == [117, 112, 112, 101, 114]) = false := by rw [Lib.toList_data, beq_eq_false_iff_ne]; exact h3
  replace h4 : (s.toList == [108, 111, 119, 101, 114]) = false := by rw [Lib.toList_data, beq_eq_false_iff_ne]; exact h4
  replace h5 : (s.toList == [115, 112, 97, 99, 101]) = false := by rw [Lib.toList_data, beq_eq_false_iff_ne]; exact h5
  replace h6 : (s.toList == [98, 108, 97, 110, 107]) = false := by rw [Lib.toList_data, beq_eq_false_iff_ne]; exact h6
  replace h7 : (s.toList == [112, 117, 110, 99, 116]) = false := by rw [Lib.toList_data, beq_eq_false_iff_ne]; exact h7
  replace h8 : (s.toList == [112, 114, 105, 110, 116]) = false := by rw [Lib.toList_data, beq_eq_false_iff_ne]; exact h8
  replace h9 : (s.toList == [103, 114, 97, 112, 104]) = false := by rw [Lib.toList_data, beq_eq_false_iff_ne]; exact h9
  replace h10 : (s.toList == [99, 110, 116, 114, 108]) = false := by rw [Lib.toList_data, beq_eq_false_iff_ne]; exact h10
  replace h11 : (s.toList == [120, 100, 105, 103, 105, 116]) = false := by rw [Lib.toList_data, beq_eq_false_iff_ne]; exact h11
  go_enter Tryd.func37, Tryd.ntmps37
  go_wp2_with fail
  go_ret
  exact ⟨rfl, rfl⟩
theorem rx_codes {s : ByteArray} {l : List (Int × Int)} (h : clsL s.data.toList = some l) (W : World) : Calls Tryd.prog 37 #[.string s] W fun e w' => e = .returned (.slice (some ⟨W.heap.size, 0, none⟩) l.length l.length) ∧ w' = W.alloc (codeObj l) := by
  unfold clsL at h
  by_cases h0 : s.data.toList = [97, 108, 112, 104, 97]
  · rw [if_pos h0] at h
    cases h
    rw [ba_of h0]
    exact rx_codes_alpha W
  rw [if_neg h0] at h
  by_cases h1 : s.data.toList = [100, 105, 103, 105, 116]
  · rw [if_pos h1] at h
    cases h
    rw [ba_of h1]
    exact rx_codes_digit W
  rw [if_neg h1] at h
  by_cases h2 : s.data.toList = [97, 108, 110, 117, 109]
  · rw [if_pos h2] at h
    cases h
    rw [ba_of h2]
    exact rx_codes_alnum W
  rw [if_neg h2] at h
  by_cases h3 : s.data.toList = [117, 112, 112, 101, 114]
  · rw [if_pos h3] at h
    cases h
    rw [ba_of h3]
    exact rx_codes_upper W
  rw [if_neg h3] at h
  by_cases h4 : s.data.toList = [108, 111, 119, 101, 114]
  · rw [if_pos h4] at h
    cases h
    rw [ba_of h4]
    exact rx_codes_lower W
  rw [if_neg h4] at h
  by_cases h5 : s.data.toList = [115, 112, 97, 99, 101]
  · rw [if_pos h5] at h
    cases h
    rw [ba_of h5]
    exact rx_codes_space W
  rw [if_neg h5] at h
  by_cases h6 : s.data.toList = [98, 108, 97, 110, 107]
  · rw [if_pos h6] at h
    cases h
    rw [ba_of h6]
    exact rx_codes_blank W
  rw [if_neg h6] at h
  by_cases h7 : s.data.toList = [112, 117, 110, 99, 116]
  · rw [if_pos h7] at h
    cases h
    rw [ba_of h7]
    exact rx_codes_punct W
  rw [if_neg h7] at h
  by_cases h8 : s.data.toList = [112, 114, 105, 110, 116]
  · rw [if_pos h8] at h
    cases h
    rw [ba_of h8]
    exact rx_codes_print W
  rw [if_neg h8] at h
  by_cases h9 : s.data.toList = [103, 114, 97, 112, 104]
  · rw [if_pos h9] at h
    cases h
    rw [ba_of h9]
    exact rx_codes_graph W
  rw [if_neg h9] at h
  by_cases h10 : s.data.toList = [99, 110, 116, 114, 108]
  · rw [if_pos h10] at h
    cases h
    rw [ba_of h10]
    exact rx_codes_cntrl W
  rw [if_neg h10] at h
  by_cases h11 : s.data.toList = [120, 100, 105, 103, 105, 116]
  · rw [if_pos h11] at h
    cases h
    rw [ba_of h11]
    exact rx_codes_xdigit W
  rw [if_neg h11] at h
  cases h
/-- What a class holds fits. -/
theorem cls_fit {s : List UInt8} {l : List (Int × Int)} (h : clsL s = some l) : l ≠ [] ∧ l.length ≤ 4 ∧ Bnd l ∧ Fit l := by
  unfold clsL at h
  iterate 12
    rcases ite_or h with ⟨_, h⟩ | ⟨_, h⟩
    · cases h
      refine ⟨by simp, by simp, ?_, ?_⟩
      · intro r hr
        simp at hr
        rcases hr with rfl | rfl | rfl | rfl <;> simp
      · intro r hr
        simp at hr
        rcases hr with rfl | rfl | rfl | rfl <;> simp
  cases h
end Go.Proofs.YtmfcofiihopbfaaDoor

namespace Go.Proofs.YtmfcofiihopbfaaDoor
open Go.RowKit Go.Lib

theorem size_beq {s : ByteArray} {i : Nat} : ((i : Int) == (s.size : Int)) = decide (i = s.size) := by
  rw [Bool.eq_iff_iff, beq_iff_eq, decide_eq_true_eq]
  omega
theorem dg_no {s : ByteArray} {j : Nat} {z : Nat} (hz : j < s.size → (s.get! j).toNat = z) (h : j < s.size → ¬ (48 ≤ z ∧ z ≤ 57)) : rxDg s j = false := by
  unfold rxDg
  rw [decide_eq_false_iff_not]
  rintro ⟨h1, h2⟩
  rw [hz h1] at h2
  exact h h1 h2
set_option maxRecDepth 100000 in
set_option maxHeartbeats 1000000 in
theorem rx_number {W : World} {pb : Nat} {s : ByteArray} {b : Bool} {i n : Nat} (h : Prs W pb s b i n) (hi : i ≤ s.size) (hs : s.size ≤ 1024) :
    Calls Tryd.prog 39 #[pbP pb] W fun e w' => e = .returned (.tuple #[.int .i64 ((numR s i 0).1 : Int), .bool (decide (i < (numR s i 0).2))]) ∧ Stp pb s b (numR s i 0).2 n W w' := by
  have HP := Lib.hid h
  obtain ⟨_, _, h2, _⟩ := h.four
  clear h
  go_enter Tryd.func39, Tryd.ntmps39
  go_wp2_with fail
  go_loopw [5] (fun v wr => ∃ j m : Nat, v = .int .i64 (m : Int) ∧ Stp pb s b j n W wr ∧ numR s i 0 = numR s j m ∧ j ≤ s.size ∧ m ≤ 31 ∧ i ≤ j) (fun _ wr => s.size - (match wr.cell? ⟨pb, 2, none⟩ with | some v => (RowKit.intOf v).toNat | none => 0))
  case atStart => exact ⟨i, 0, rfl, Stp.refl HP.out, rfl, hi, by omega, Nat.le_refl _⟩
  case round =>
    obtain ⟨j, m, rfl, hS, hN, hj, hm, hij⟩ := hrel
    have HS := Lib.hid hS
    have HN := Lib.hid hN
    clear h2 hN
    obtain ⟨q0, _, q2, _, f2, _⟩ := hS.prs.four
    have g0 : (0 : Int) ≤ (j : Int) := by omega
    have g1 : (j : Int) ≤ (s.size : Int) := by omega
    by_cases hlt : j < s.size
    · have CE := Lib.hid (fun k => rx_ended_q (Stp.drewN hS.prs k).prs false (by rw [size_beq, decide_eq_false_iff_not]; omega))
      obtain ⟨z, hz⟩ : ∃ z, (s[j]'hlt).toNat = z := ⟨_, rfl⟩
      have hzi : ((s[j]'hlt).toNat : Int) = (z : Int) := by omega
      have hgz : (s.get! j).toNat = z := by rw [← get!_lt s j hlt]; exact hz
      have z256 : z < 256 := by rw [← hz]; exact UInt8.toNat_lt _
      have HGZ := Lib.hid hgz
      clear hz hgz hS
      by_cases hd : 48 ≤ z ∧ z ≤ 57
      · obtain ⟨d1, d2⟩ := hd
        have HD := Lib.hid (show rxDg s j = true from decide_eq_true ⟨hlt, by rw [HGZ.out]; exact ⟨d1, d2⟩⟩)
        have d1i : (48 : Int) ≤ (z : Int) := by omega
        have d2i : (z : Int) ≤ 57 := by omega
        have d1d : decide ((48 : Int) ≤ (z : Int)) = true := decide_eq_true d1i
        have d2d : decide ((z : Int) ≤ 57) = true := decide_eq_true d2i
        obtain ⟨y, hy⟩ : ∃ y : Nat, min (m * 10 + (z - 48)) 31 = y := ⟨_, rfl⟩
        have hw1 : IntKind.i64.wrap ((m : Int) * 10) = ((m * 10 : Nat) : Int) := by simp [IntKind.wrap, IntKind.bits, IntKind.signed]; omega
        have hw2 : IntKind.u8.wrap ((z : Int) - 48) = ((z - 48 : Nat) : Int) := by simp [IntKind.wrap, IntKind.bits, IntKind.signed]; omega
        have hw3 : IntKind.i64.wrap (((z - 48 : Nat) : Nat) : Int) = ((z - 48 : Nat) : Int) := by simp [IntKind.wrap, IntKind.bits, IntKind.signed]; omega
        have hw4 : IntKind.i64.wrap (((m * 10 : Nat) : Int) + ((z - 48 : Nat) : Int)) = ((m * 10 + (z - 48) : Nat) : Int) := by simp [IntKind.wrap, IntKind.bits, IntKind.signed]; omega
        have hmn : min ((m * 10 + (z - 48) : Nat) : Int) 31 = (y : Int) := by omega
        obtain ⟨j1, hj1⟩ : ∃ j1, j + 1 = j1 := ⟨_, rfl⟩
        have hw5 : IntKind.i64.wrap ((j : Int) + 1) = (j1 : Int) := by simp [IntKind.wrap, IntKind.bits, IntKind.signed]; omega
        go_wp2_with fail
        go_quiet ((go_at_call 15; exact Calls.quiet_of (CE.out _)))
        go_wp2_with fail
        go_quiet (fail)
        go_wp2_with fail
        have hS2 := fun k => (HS.out.dr k).to j1
        refine ⟨⟨j1, y, by rw [← hmn]; simp, hS2 _, ?_, by omega, by omega, by omega⟩, ?_⟩
        · rw [HN.out, numR_step s j m HD.out, HGZ.out, hy, hj1]
        · rw [(hS2 _).prs.four.2.2.1, q2]
          simp [RowKit.intOf]
          omega
      · have HD := Lib.hid (show rxDg s j = false from dg_no (fun _ => HGZ.out) (fun _ => hd))
        have hgt : decide ((i : Int) < (j : Int)) = decide (i < j) := by rw [decide_eq_decide]; omega
        by_cases d1 : 48 ≤ z
        · have d2 : ¬ z ≤ 57 := fun e => hd ⟨d1, e⟩
          have d1i : (48 : Int) ≤ (z : Int) := by omega
          have d2i : ¬ (z : Int) ≤ 57 := by omega
          have d1d : decide ((48 : Int) ≤ (z : Int)) = true := decide_eq_true d1i
          have d2d : decide ((z : Int) ≤ 57) = false := decide_eq_false d2i
          go_wp2_with fail
          go_quiet ((go_at_call 15; exact Calls.quiet_of (CE.out _)))
          go_wp2_with fail
          go_quiet (fail)
          go_wp2_with fail
          go_ret2
          refine ⟨by rw [HN.out, numR_stop s j m HD.out]; simp [], ?_⟩
          rw [HN.out, numR_stop s j m HD.out]
          first | exact (HS.out.dr _).dr _ | exact HS.out.dr _
        · have d1i : ¬ (48 : Int) ≤ (z : Int) := by omega
          have d1d : decide ((48 : Int) ≤ (z : Int)) = false := decide_eq_false d1i
          go_wp2_with fail
          go_quiet ((go_at_call 15; exact Calls.quiet_of (CE.out _)))
          go_wp2_with fail
          go_quiet (fail)
          go_wp2_with fail
          go_ret2
          refine ⟨by rw [HN.out, numR_stop s j m HD.out]; simp [], ?_⟩
          rw [HN.out, numR_stop s j m HD.out]
          first | exact (HS.out.dr _).dr _ | exact HS.out.dr _
    · have CE := Lib.hid (fun k => rx_ended_q (Stp.drewN hS.prs k).prs true (by rw [size_beq, decide_eq_true_eq]; omega))
      have HD := Lib.hid (show rxDg s j = false from dg_no (z := 0) (fun h => absurd h hlt) (fun h => absurd h hlt))
      have hgt : decide ((i : Int) < (j : Int)) = decide (i < j) := by rw [decide_eq_decide]; omega
      clear hS
      go_wp2_with fail
      go_quiet ((go_at_call 15; exact Calls.quiet_of (CE.out _)))
      go_wp2_with fail
      go_quiet (fail)
      go_wp2_with fail
      go_ret2
      refine ⟨by rw [HN.out, numR_stop s j m HD.out]; simp [], ?_⟩
      rw [HN.out, numR_stop s j m HD.out]
      first | exact (HS.out.dr _).dr _ | exact HS.out.dr _
theorem rx_repeats (lo hi : Int) (W : World) : Calls Tryd.prog 32 #[.int .i64 lo, .int .i64 hi] W fun e w' => e = .returned (.bool (repsF lo hi)) ∧ W = w' := by
  by_cases h0 : 0 ≤ lo
  · by_cases h1 : lo ≤ 30
    · by_cases h2 : hi = -1
      · subst h2
        have e : repsF lo (-1) = true := decide_eq_true ⟨h0, h1, .inl rfl⟩
        rw [e]
        go_enter Tryd.func32, Tryd.ntmps32
        go_wp2_with fail
        go_ret
        exact ⟨rfl, rfl⟩
      · have h2b : (hi == -1) = false := by rw [beq_eq_false_iff_ne]; exact h2
        by_cases h3 : lo ≤ hi
        · have e : repsF lo hi = decide (hi ≤ 30) := by
            unfold repsF
            rw [decide_eq_decide]
            omega
          rw [e]
          go_enter Tryd.func32, Tryd.ntmps32
          go_wp2_with fail
          go_ret
          exact ⟨rfl, rfl⟩
        · have e : repsF lo hi = false := decide_eq_false (by omega)
          rw [e]
          go_enter Tryd.func32, Tryd.ntmps32
          go_wp2_with fail
          go_ret
          exact ⟨rfl, rfl⟩
    · have e : repsF lo hi = false := decide_eq_false (by omega)
      rw [e]
      go_enter Tryd.func32, Tryd.ntmps32
      go_wp2_with fail
      go_ret
      exact ⟨rfl, rfl⟩
  · have e : repsF lo hi = false := decide_eq_false (by omega)
    rw [e]
    go_enter Tryd.func32, Tryd.ntmps32
    go_wp2_with fail
    go_ret
    exact ⟨rfl, rfl⟩
/-- 'take' of one byte. -/
theorem rx_take1 {W : World} {pb : Nat} {s : ByteArray} {b : Bool} {i n : Nat} (h : Prs W pb s b i n) (hi : i ≤ s.size) (hs : s.size ≤ 1024) (c : UInt8) (p : Bool) (hp : st1 s i c.toNat = p) :
    Calls Tryd.prog 19 #[pbP pb, .string ⟨#[c]⟩] W fun e w' => e = .returned (.bool p) ∧ Stp pb s b (if p then i + 1 else i) n W w' :=
  rx_take h hi hs ⟨#[c]⟩ p ((pre1 s i c).trans hp) (show 1 ≤ 2 by omega)
theorem rx_stands1 {W : World} {pb : Nat} {s : ByteArray} {b : Bool} {i n : Nat} (h : Prs W pb s b i n) (hi : i ≤ s.size) (c : UInt8) (p : Bool) (hp : st1 s i c.toNat = p) :
    Calls Tryd.prog 21 #[pbP pb, .string ⟨#[c]⟩] W fun e w' => e = .returned (.bool p) ∧ Stp pb s b i n W w' := rx_stands h hi ⟨#[c]⟩ p ((pre1 s i c).trans hp)
theorem rx_stands2 {W : World} {pb : Nat} {s : ByteArray} {b : Bool} {i n : Nat} (h : Prs W pb s b i n) (hi : i ≤ s.size) (c d : UInt8) (p : Bool) (hp : st2 s i c.toNat d.toNat = p) :
    Calls Tryd.prog 21 #[pbP pb, .string ⟨#[c, d]⟩] W fun e w' => e = .returned (.bool p) ∧ Stp pb s b i n W w' := rx_stands h hi ⟨#[c, d]⟩ p ((pre2 s i c d).trans hp)
/-- What 'bounds' answers, and where it stands then. -/
def BndOut (pb : Nat) (s : ByteArray) (b : Bool) (i n : Nat) (W : World) (e : Ending) (w' : World) : Prop :=
  match bndF s i with
  | none => (∃ lo hi : Int, e = .returned (.tuple #[.int .i64 lo, .int .i64 hi, .bool false])) ∧ ∃ j, Stp pb s b j n W w'
  | some (lo, hi, k) => e = .returned (.tuple #[.int .i64 lo, .int .i64 hi, .bool true]) ∧ Stp pb s b k n W w'
set_option maxRecDepth 100000 in
set_option maxHeartbeats 1000000 in
theorem rx_bounds {W : World} {pb : Nat} {s : ByteArray} {b : Bool} {i n : Nat} (h : Prs W pb s b i n) (hi : i ≤ s.size) (hs : s.size ≤ 1024) :
    Calls Tryd.prog 31 #[pbP pb] W (BndOut pb s b i n W) := by
  unfold BndOut
  unfold bndF
  cases h0 : st1 s i 123 with
  | false =>
    have C0 := Lib.hid (rx_take1 h hi hs 123 false h0)
    clear h
    go_enter Tryd.func31, Tryd.ntmps31
    go_wp2_with fail
    refine C0.out.mono ?_
    rintro e w' ⟨rfl, hS⟩
    have HS := Lib.hid hS
    clear hS C0
    go_wp2_with fail
    go_ret3
    exact ⟨⟨_, _, rfl⟩, _, HS.out⟩
  | true =>
    have C0 := Lib.hid (rx_take1 h hi hs 123 true h0)
    have hi1 := st1_lt h0
    have hn := numR_in s (i + 1) hi1
    have CN := Lib.hid (fun W (hP : Prs W pb s b (i + 1) n) => rx_number hP hi1 hs)
    generalize numR s (i + 1) 0 = r at hn CN
    clear h h0
    simp only [if_true]
    by_cases h1 : r.2 = i + 1
    · have hd : decide (i + 1 < r.2) = false := decide_eq_false (by omega)
      rw [hd] at CN
      rw [if_pos h1]
      go_enter Tryd.func31, Tryd.ntmps31
      go_wp2_with fail
      refine C0.out.mono ?_
      rintro e w' ⟨rfl, hS⟩
      have HS := Lib.hid hS
      clear hS C0
      go_wp2_with fail
      refine (CN.out _ HS.out.prs).mono ?_
      rintro e w2 ⟨rfl, hS⟩
      have HS2 := Lib.hid (HS.out.trans hS)
      clear hS HS CN
      go_wp2_with fail
      go_ret3
      exact ⟨⟨_, _, rfl⟩, _, HS2.out⟩
    have hd : decide (i + 1 < r.2) = true := decide_eq_true (by omega)
    rw [hd] at CN
    rw [if_neg h1]
    clear h1
    cases h2 : st1 s r.2 44 with
    | true =>
      have C2 := Lib.hid (fun W (hP : Prs W pb s b r.2 n) => rx_take1 hP hn.2.1 hs 44 true h2)
      have hi2 := st1_lt h2
      have hm := numR_in s (r.2 + 1) hi2
      have CM := Lib.hid (fun W (hP : Prs W pb s b (r.2 + 1) n) => rx_number hP hi2 hs)
      generalize numR s (r.2 + 1) 0 = q at hm CM
      obtain ⟨p3, h3⟩ : ∃ p, st1 s q.2 125 = p := ⟨_, rfl⟩
      have C3 := Lib.hid (fun W (hP : Prs W pb s b q.2 n) => rx_take1 hP hm.2.1 hs 125 p3 h3)
      rw [h3]
      simp only [if_true]
      by_cases h4 : q.2 = r.2 + 1
      · have hd : decide (r.2 + 1 < q.2) = false := decide_eq_false (by omega)
        rw [hd] at CM
        rw [if_pos h4]
        clear h4
        go_enter Tryd.func31, Tryd.ntmps31
        go_wp2_with fail
        refine C0.out.mono ?_
        rintro e w' ⟨rfl, hS⟩
        have HS := Lib.hid hS
        clear hS C0
        go_wp2_with fail
        refine (CN.out _ HS.out.prs).mono ?_
        rintro e w2 ⟨rfl, hS⟩
        have HS2 := Lib.hid (HS.out.trans hS)
        clear hS HS CN
        go_wp2_with fail
        refine (C2.out _ HS2.out.prs).mono ?_
        rintro e w3 ⟨rfl, hS⟩
        have HS3 := Lib.hid (HS2.out.trans hS)
        clear hS HS2 C2
        go_wp2_with fail
        refine (CM.out _ HS3.out.prs).mono ?_
        rintro e w4 ⟨rfl, hS⟩
        have HS4 := Lib.hid (HS3.out.trans hS)
        clear hS HS3 CM
        go_wp2_with fail
        refine (C3.out _ HS4.out.prs).mono ?_
        rintro e w5 ⟨rfl, hS⟩
        have HS5 := Lib.hid (HS4.out.trans hS)
        clear hS HS4 C3
        go_wp2_with fail
        · go_ret3
          exact ⟨rfl, by have h5 := HS5.out; rwa [if_pos (by assumption)] at h5⟩
        · go_ret3
          exact ⟨⟨_, _, rfl⟩, _, HS5.out⟩
      · have hd : decide (r.2 + 1 < q.2) = true := decide_eq_true (by omega)
        rw [hd] at CM
        rw [if_neg h4]
        clear h4
        go_enter Tryd.func31, Tryd.ntmps31
        go_wp2_with fail
        refine C0.out.mono ?_
        rintro e w' ⟨rfl, hS⟩
        have HS := Lib.hid hS
        clear hS C0
        go_wp2_with fail
        refine (CN.out _ HS.out.prs).mono ?_
        rintro e w2 ⟨rfl, hS⟩
        have HS2 := Lib.hid (HS.out.trans hS)
        clear hS HS CN
        go_wp2_with fail
        refine (C2.out _ HS2.out.prs).mono ?_
        rintro e w3 ⟨rfl, hS⟩
        have HS3 := Lib.hid (HS2.out.trans hS)
        clear hS HS2 C2
        go_wp2_with fail
        refine (CM.out _ HS3.out.prs).mono ?_
        rintro e w4 ⟨rfl, hS⟩
        have HS4 := Lib.hid (HS3.out.trans hS)
        clear hS HS3 CM
        go_wp2_with fail
        refine (C3.out _ HS4.out.prs).mono ?_
        rintro e w5 ⟨rfl, hS⟩
        have HS5 := Lib.hid (HS4.out.trans hS)
        clear hS HS4 C3
        go_wp2_with fail
        · go_ret3
          exact ⟨rfl, by have h5 := HS5.out; rwa [if_pos (by assumption)] at h5⟩
        · go_ret3
          exact ⟨⟨_, _, rfl⟩, _, HS5.out⟩
    | false =>
      have C2 := Lib.hid (fun W (hP : Prs W pb s b r.2 n) => rx_take1 hP hn.2.1 hs 44 false h2)
      obtain ⟨p3, h3⟩ : ∃ p, st1 s r.2 125 = p := ⟨_, rfl⟩
      have C3 := Lib.hid (fun W (hP : Prs W pb s b r.2 n) => rx_take1 hP hn.2.1 hs 125 p3 h3)
      rw [h3]
      simp only [Bool.false_eq_true, if_false]
      go_enter Tryd.func31, Tryd.ntmps31
      go_wp2_with fail
      refine C0.out.mono ?_
      rintro e w' ⟨rfl, hS⟩
      have HS := Lib.hid hS
      clear hS C0
      go_wp2_with fail
      refine (CN.out _ HS.out.prs).mono ?_
      rintro e w2 ⟨rfl, hS⟩
      have HS2 := Lib.hid (HS.out.trans hS)
      clear hS HS CN
      go_wp2_with fail
      refine (C2.out _ HS2.out.prs).mono ?_
      rintro e w3 ⟨rfl, hS⟩
      have HS3 := Lib.hid (HS2.out.trans hS)
      clear hS HS2 C2
      go_wp2_with fail
      refine (C3.out _ HS3.out.prs).mono ?_
      rintro e w5 ⟨rfl, hS⟩
      have HS5 := Lib.hid (HS3.out.trans hS)
      clear hS HS3 C3
      go_wp2_with fail
      · go_ret3
        exact ⟨rfl, by have h5 := HS5.out; rwa [if_pos (by assumption)] at h5⟩
      · go_ret3
        exact ⟨⟨_, _, rfl⟩, _, HS5.out⟩
/-- What 'interval' answers. -/
def IvlOut (pb : Nat) (s : ByteArray) (b : Bool) (i n : Nat) (W : World) (e : Ending) (w' : World) : Prop :=
  match ivlF s i with
  | none => e = .returned (.tuple #[.int .i64 0, .int .i64 0, .bool false]) ∧ Stp pb s b i n W w'
  | some (.ok r k) => e = .returned (.tuple #[.int .i64 r.1, .int .i64 r.2, .bool true]) ∧ Stp pb s b k n W w'
  | some (.bad k er) => e = flt k er ∧ Off2 pb pb W w'
set_option maxRecDepth 100000 in
set_option maxHeartbeats 1000000 in
theorem rx_interval {W : World} {pb : Nat} {s : ByteArray} {b : Bool} {i n : Nat} (h : Prs W pb s b i n) (hi : i ≤ s.size) (hs : s.size ≤ 1024) :
    Calls Tryd.prog 25 #[pbP pb] W (IvlOut pb s b i n W) := by
  have CB := rx_bounds h hi hs
  obtain ⟨_, _, h2, _⟩ := h.four
  unfold BndOut at CB
  unfold IvlOut ivlF
  clear h
  cases hb : bndF s i with
  | none =>
    rw [hb] at CB
    have CB := Lib.hid CB
    go_enter Tryd.func25, Tryd.ntmps25
    go_wp2_with fail
    refine (show Calls _ _ _ _ _ from CB.out).mono ?_
    rintro e w' ⟨⟨lo, hi', rfl⟩, j, hS⟩
    have HS := Lib.hid hS
    obtain ⟨_, _, q2, _, f2, _⟩ := hS.prs.four
    clear hS CB h2
    go_wp2_with fail
    go_ret3
    exact ⟨rfl, HS.out.to i⟩
  | some q =>
    obtain ⟨lo, hi', k⟩ := q
    rw [hb] at CB
    have CB := Lib.hid CB
    have hbi := bnd_in hb
    have CR := Lib.hid (fun W => rx_repeats lo hi' W)
    have CW := Lib.hid (fun W => rx_wrong pb i W)
    have CG := Lib.hid (fun W => rx_big pb i W)
    by_cases h3 : 30 < lo ∨ 30 < hi'
    · simp only [if_pos h3]
      by_cases h4 : 30 < lo
      · clear h3
        go_enter Tryd.func25, Tryd.ntmps25
        go_wp2_with fail
        refine (show Calls _ _ _ _ _ from CB.out).mono ?_
        rintro e w' ⟨rfl, hS⟩
        have HS := Lib.hid hS
        clear hS CB
        go_wp2_with fail
        refine (CG.out _).mono ?_
        rintro e w2 ⟨rfl, rfl⟩
        go_wp2_with fail
        first | exact ⟨rfl, HS.out.off⟩ | exact ⟨rfl, rfl, HS.out.off⟩
      · have h5 : 30 < hi' := by omega
        clear h3
        go_enter Tryd.func25, Tryd.ntmps25
        go_wp2_with fail
        refine (show Calls _ _ _ _ _ from CB.out).mono ?_
        rintro e w' ⟨rfl, hS⟩
        have HS := Lib.hid hS
        clear hS CB
        go_wp2_with fail
        refine (CG.out _).mono ?_
        rintro e w2 ⟨rfl, rfl⟩
        go_wp2_with fail
        first | exact ⟨rfl, HS.out.off⟩ | exact ⟨rfl, rfl, HS.out.off⟩
    · simp only [if_neg h3]
      have h4 : ¬ 30 < lo := by omega
      have h5 : ¬ 30 < hi' := by omega
      clear h3
      cases hr : repsF lo hi' with
      | true =>
        rw [hr] at CR
        simp only [if_true]
        go_enter Tryd.func25, Tryd.ntmps25
        go_wp2_with fail
        refine (show Calls _ _ _ _ _ from CB.out).mono ?_
        rintro e w' ⟨rfl, hS⟩
        have HS := Lib.hid hS
        clear hS CB
        go_wp2_with fail
        refine (CR.out _).mono ?_
        rintro e w2 ⟨rfl, rfl⟩
        go_wp2_with fail
        go_ret3
        exact ⟨rfl, HS.out⟩
      | false =>
        rw [hr] at CR
        simp only [Bool.false_eq_true, if_false]
        go_enter Tryd.func25, Tryd.ntmps25
        go_wp2_with fail
        refine (show Calls _ _ _ _ _ from CB.out).mono ?_
        rintro e w' ⟨rfl, hS⟩
        have HS := Lib.hid hS
        clear hS CB
        go_wp2_with fail
        refine (CR.out _).mono ?_
        rintro e w2 ⟨rfl, rfl⟩
        go_wp2_with fail
        refine (CW.out _).mono ?_
        rintro e w2 ⟨rfl, rfl⟩
        go_wp2_with fail
        first | exact ⟨rfl, HS.out.off⟩ | exact ⟨rfl, rfl, HS.out.off⟩
end Go.Proofs.YtmfcofiihopbfaaDoor

namespace Go.Proofs.YtmfcofiihopbfaaDoor
open Go.RowKit Go.Lib

def alnR : List (Int × Int) := [(48, 57), (65, 90), (97, 122)]
theorem rx_pred (c : Int) (B : Nat) (w : World) (hB : B < w.heap.size) (hcell : w.cell? ⟨B, 0, none⟩ = some (.int .i64 c)) :
    Go.Proofs.PredBelow Tryd.prog 53 #[.pointer (some ⟨B, 0, none⟩)] (fun x => .agg (encR x).toArray) (fun x => decide (x.1 ≤ c ∧ c ≤ x.2)) w := fun W x hb => by
  have hc : W.cell? ⟨B, 0, none⟩ = some (.int .i64 c) := (hb.cell (p := ⟨B, 0, none⟩) hB).trans hcell
  have hBW : B < W.heap.size := Nat.lt_of_lt_of_le hB hb.size
  have hne : B ≠ W.heap.size := by omega
  have HBB := Lib.hid hb
  obtain ⟨x1, x2⟩ := x
  show Calls Tryd.prog 53 #[.agg #[.int .i64 x1, .int .i64 x2], .pointer (some ⟨B, 0, none⟩)] W _
  clear hcell hb
  by_cases h1 : x1 ≤ c
  · have e : decide (x1 ≤ c ∧ c ≤ x2) = decide (c ≤ x2) := by simp [h1]
    simp only [e]
    clear e
    go_enter Tryd.func53, Tryd.ntmps53
    go_wp2_with fail
    go_ret
    exact ⟨rfl, HBB.out.alloc HBB.out.size _⟩
  · have e : decide (x1 ≤ c ∧ c ≤ x2) = false := decide_eq_false (fun h => h1 h.1)
    simp only [e]
    clear e
    go_enter Tryd.func53, Tryd.ntmps53
    go_wp2_with fail
    go_ret
    exact ⟨rfl, HBB.out.alloc HBB.out.size _⟩
set_option maxHeartbeats 1000000 in
theorem rx_within {W : World} {g : Nat} (hR : RngR W g alnR) (c : Nat) (hg : g < W.heap.size) :
    Calls Tryd.prog 46 #[.slice (some ⟨g, 0, none⟩) 3 3, .int .i64 (c : Int)] W fun e w' => e = .returned (.bool (alnF c)) ∧ Below W.heap.size W w' := by
  have eg : ∀ args w, (callFunc 53 args).run Tryd.prog w = .ok (.enter 53 args) w := enters_of Tryd.func53 (by kernel_rfl) rfl
  have hR2 := hR.below ((Below.refl W.heap.size W).alloc (Nat.le_refl _) (.cells #[.int .i64 (c : Int)] 3)) hg
  have hcon := Go.Proofs.AnyQ.slices_ContainsFunc Tryd.sl_has 2 Tryd.isAgg42 Tryd.sizeOf42 encR (fun _ => rfl) (fun x => decide (x.1 ≤ (c : Int) ∧ (c : Int) ≤ x.2)) 53 #[.pointer (some ⟨W.heap.size, 0, none⟩)] eg g 0 3 3 alnR (W.alloc (.cells #[.int .i64 (c : Int)] 3))
    (rx_pred c W.heap.size _ (by simp) (by simp)) (by decide) (by decide) (by simp; omega) (fun j hj i v hi => by
      have h1 := hR2 j _ (List.getElem?_eq_getElem hj)
      rw [getElem!_pos alnR j hj] at hi
      rw [Nat.zero_add]
      match i, hi with
      | 0, hi => simp [encR] at hi; rw [← hi]; exact h1.1.1
      | 1, hi => simp [encR] at hi; rw [← hi]; exact h1.1.2
      | i + 2, hi => simp [encR] at hi)
  have e : (alnR.take 3).any (fun x => decide (x.1 ≤ (c : Int) ∧ (c : Int) ≤ x.2)) = alnF c := by
    rw [Bool.eq_iff_iff]
    simp [alnR, alnF]
    omega
  rw [e] at hcon
  have HC := Lib.hid hcon
  clear hcon hR hR2 e
  go_enter Tryd.func46, Tryd.ntmps46
  go_wp2_with (go_at_call 52; refine (show Calls _ _ _ _ _ from HC.out).mono ?_; rintro e w' ⟨rfl, hb⟩)
  go_ret
  exact ⟨rfl, ((Below.refl _ W).alloc (Nat.le_refl _) _).trans (hb.mono (by simp))⟩
/-- What 'meant' answers. -/
def meantP (c : Nat) : Option Nat → Int × Bool
  | none => ((c : Int), false)
  | some x => ((x : Int), true)
def meantZ (c : Nat) : Int × Bool := meantP c (meantF c)
theorem codeObj_rng (W : World) (l : List (Int × Int)) : RngR (W.alloc (codeObj l)) W.heap.size l := by
  refine RngR.of_row (cur := (flatR l).toArray) (t := 42) (heap_alloc_new W _) ?_
  rw [List.take_of_length_le]
  rw [flatR_len]
  exact Nat.le_refl _
set_option maxRecDepth 100000 in
set_option maxHeartbeats 1000000 in
theorem rx_meant (c : Nat) (W : World) : Calls Tryd.prog 38 #[.int .i64 (c : Int)] W fun e w' => e = .returned (.tuple #[.int .i64 (meantZ c).1, .bool (meantZ c).2]) ∧ Below W.heap.size W w' := by
  have one : ∀ (k x : Nat), meantF k = some x → meantZ k = ((x : Int), true) := fun k x h => by unfold meantZ; rw [h]; rfl
  by_cases h0 : c = 110
  · subst h0
    rw [one 110 10 rfl]
    go_enter Tryd.func38, Tryd.ntmps38
    go_wp2_with fail
    go_ret2
    exact ⟨rfl, Below.refl _ _⟩
  by_cases h1 : c = 116
  · subst h1
    rw [one 116 9 rfl]
    go_enter Tryd.func38, Tryd.ntmps38
    go_wp2_with fail
    go_ret2
    exact ⟨rfl, Below.refl _ _⟩
  by_cases h2 : c = 114
  · subst h2
    rw [one 114 13 rfl]
    go_enter Tryd.func38, Tryd.ntmps38
    go_wp2_with fail
    go_ret2
    exact ⟨rfl, Below.refl _ _⟩
  by_cases h3 : c = 102
  · subst h3
    rw [one 102 12 rfl]
    go_enter Tryd.func38, Tryd.ntmps38
    go_wp2_with fail
    go_ret2
    exact ⟨rfl, Below.refl _ _⟩
  by_cases h4 : c = 118
  · subst h4
    rw [one 118 11 rfl]
    go_enter Tryd.func38, Tryd.ntmps38
    go_wp2_with fail
    go_ret2
    exact ⟨rfl, Below.refl _ _⟩
  by_cases h5 : c = 97
  · subst h5
    rw [one 97 7 rfl]
    go_enter Tryd.func38, Tryd.ntmps38
    go_wp2_with fail
    go_ret2
    exact ⟨rfl, Below.refl _ _⟩
  by_cases h6 : c = 98
  · subst h6
    rw [one 98 8 rfl]
    go_enter Tryd.func38, Tryd.ntmps38
    go_wp2_with fail
    go_ret2
    exact ⟨rfl, Below.refl _ _⟩
  have e : meantZ c = ((c : Int), !alnF c) := by
    unfold meantZ meantF
    rw [if_neg h0, if_neg h1, if_neg h2, if_neg h3, if_neg h4, if_neg h5, if_neg h6]
    cases alnF c <;> rfl
  rw [e]
  have k0 : ((c : Int) == 110) = false := by simp; omega
  have k1 : ((c : Int) == 116) = false := by simp; omega
  have k2 : ((c : Int) == 114) = false := by simp; omega
  have k3 : ((c : Int) == 102) = false := by simp; omega
  have k4 : ((c : Int) == 118) = false := by simp; omega
  have k5 : ((c : Int) == 97) = false := by simp; omega
  have k6 : ((c : Int) == 98) = false := by simp; omega
  clear h0 h1 h2 h3 h4 h5 h6 e one
  have CC := Lib.hid (rx_codes (s := ⟨#[97, 108, 110, 117, 109]⟩) (l := alnR) rfl W)
  have hb0 := (Below.refl W.heap.size W).alloc (Nat.le_refl _) (codeObj alnR)
  have CW := Lib.hid (rx_within (codeObj_rng W alnR) c (by simp))
  obtain ⟨W1, hW1⟩ : ∃ W1, W.alloc (codeObj alnR) = W1 := ⟨_, rfl⟩
  rw [hW1] at CC CW hb0
  have HB := Lib.hid hb0
  have hs := hb0.size
  clear hW1 hb0
  go_enter Tryd.func38, Tryd.ntmps38
  go_wp2_with fail
  refine CC.out.mono ?_
  rintro e w' ⟨rfl, rfl⟩
  go_wp2_with fail
  refine (show Calls _ _ _ _ _ from CW.out).mono ?_
  rintro e w2 ⟨rfl, hb⟩
  go_wp2_with fail
  all_goals
    go_ret2
    first | exact ⟨rfl, HB.out.trans (hb.mono hs)⟩ | exact ⟨by simp_all, HB.out.trans (hb.mono hs)⟩
end Go.Proofs.YtmfcofiihopbfaaDoor

namespace Go.Proofs.YtmfcofiihopbfaaDoor
open Go.RowKit Go.Lib

/-- What a part that answers an int leaves. -/
def gInt (c : Nat) (v : Value) (_ : World) : Prop := v = .int .i64 (c : Int)
theorem nx_cod {s : ByteArray} {b : Bool} {i : Nat} : (nextZ s i b).1 ≤ 1114367 := by
  have h1 := get!_lt256 s i
  unfold nextZ
  split
  · simp
  · rw [Int.toNat_natCast]
    split
    · simp only
      omega
    · unfold chS chN
      split
      · simp only
        omega
      · have := (decodeN_lt (s.size - i) (s.get! i).toNat (s.get! (i + 1)).toNat (s.get! (i + 2)).toNat (s.get! (i + 3)).toNat).1
        omega
theorem meantZ_is {D : Nat} {M : Option Nat} (h : meantF D = M) : meantZ D = meantP D M := by
  subst h
  rfl
set_option maxRecDepth 100000 in
set_option maxHeartbeats 1000000 in
theorem rx_member {W : World} {pb a : Nat} {s : ByteArray} {b : Bool} {i n : Nat} (h : Prs W pb s b i n) (hi : i ≤ s.size) (hs : s.size ≤ 1024) (hE : Env W pb) :
    Calls Tryd.prog 42 #[pbP pb, .int .i64 (a : Int)] W (RxOut gInt pb s b n W (memF s b a i)) := by
  have CW := Lib.hid (fun W => rx_wrong pb a W)
  have hlt := Blk.lt h
  unfold memF
  by_cases h0 : i = s.size
  · rw [if_pos h0]
    have C0 := Lib.hid (rx_ended h true (by rw [size_beq, decide_eq_true_eq]; exact h0))
    clear h hE hlt h0
    go_enter Tryd.func42, Tryd.ntmps42
    go_wp2_with fail
    refine C0.out.mono ?_
    rintro e w1 ⟨rfl, hS⟩
    have HS := Lib.hid hS
    clear hS C0
    go_wp2_with fail
    refine (CW.out _).mono ?_
    rintro e w2 ⟨rfl, rfl⟩
    go_wp2_with fail
    exact ⟨rfl, rfl, HS.out.off⟩
  rw [if_neg h0]
  have C0 := Lib.hid (rx_ended h false (by rw [size_beq, decide_eq_false_iff_not]; exact h0))
  have C1 := Lib.hid (fun W1 (hS : Stp pb s b i n W W1) => rx_next hS.prs (by omega) hs (hE.step hS hlt))
  have HE := Lib.hid (fun W1 (j : Nat) (hS : Stp pb s b j n W W1) => hE.step hS hlt)
  have hx := nx_in s b i (by omega)
  have hcod := nx_cod (s := s) (b := b) (i := i)
  obtain ⟨C, hC⟩ : ∃ C, (nextZ s i b).1 = C := ⟨_, rfl⟩
  obtain ⟨Z, hZ⟩ : ∃ Z, (nextZ s i b).2 = Z := ⟨_, rfl⟩
  rw [hC, hZ] at C1
  rw [hZ] at hx
  rw [hC] at hcod
  simp only [hC, hZ]
  clear h hE hC hZ
  by_cases h1 : C = 92
  · subst h1
    rw [if_pos rfl]
    by_cases h2 : i + Z = s.size
    · rw [if_pos h2]
      have C2 := Lib.hid (fun W1 (hP : Prs W1 pb s b (i + Z) n) => rx_ended hP true (by rw [size_beq, decide_eq_true_eq]; exact h2))
      clear h2 h0
      go_enter Tryd.func42, Tryd.ntmps42
      go_wp2_with fail
      refine C0.out.mono ?_
      rintro e w1 ⟨rfl, hS⟩
      have HS := Lib.hid hS
      clear hS C0
      go_wp2_with fail
      refine (C1.out _ HS.out).mono ?_
      rintro e w2 ⟨rfl, hS⟩
      have HS2 := Lib.hid (HS.out.trans hS)
      clear hS HS C1
      go_wp2_with fail
      refine (C2.out _ HS2.out.prs).mono ?_
      rintro e w3 ⟨rfl, hS⟩
      have HS3 := Lib.hid (HS2.out.trans hS)
      clear hS HS2 C2
      go_wp2_with fail
      refine (CW.out _).mono ?_
      rintro e w4 ⟨rfl, rfl⟩
      go_wp2_with fail
      exact ⟨rfl, rfl, HS3.out.off⟩
    · rw [if_neg h2]
      have C2 := Lib.hid (fun W1 (hP : Prs W1 pb s b (i + Z) n) => rx_ended hP false (by rw [size_beq, decide_eq_false_iff_not]; exact h2))
      have C3 := Lib.hid (fun W1 (hS : Stp pb s b (i + Z) n W W1) => rx_next hS.prs (by omega) hs (HE.out W1 _ hS))
      obtain ⟨D, hD⟩ : ∃ D, (nextZ s ((i + Z : Nat) : Int) b).1 = D := ⟨_, rfl⟩
      obtain ⟨Y, hY⟩ : ∃ Y, (nextZ s ((i + Z : Nat) : Int) b).2 = Y := ⟨_, rfl⟩
      rw [hD, hY] at C3
      simp only [hD, hY]
      have CM := fun W => rx_meant D W
      obtain ⟨M, hM⟩ : ∃ M, meantF D = M := ⟨_, rfl⟩
      rw [meantZ_is hM] at CM
      rw [hM]
      clear h2 h0 hD hY hM
      cases M with
      | none =>
        simp only [meantP] at CM
        have CM := Lib.hid CM
        go_enter Tryd.func42, Tryd.ntmps42
        go_wp2_with fail
        refine C0.out.mono ?_
        rintro e w1 ⟨rfl, hS⟩
        have HS := Lib.hid hS
        clear hS C0
        go_wp2_with fail
        refine (C1.out _ HS.out).mono ?_
        rintro e w2 ⟨rfl, hS⟩
        have HS2 := Lib.hid (HS.out.trans hS)
        clear hS HS C1
        go_wp2_with fail
        refine (C2.out _ HS2.out.prs).mono ?_
        rintro e w3 ⟨rfl, hS⟩
        have HS3 := Lib.hid (HS2.out.trans hS)
        clear hS HS2 C2
        go_wp2_with fail
        refine (C3.out _ HS3.out).mono ?_
        rintro e w4 ⟨rfl, hS⟩
        have HS4 := Lib.hid (HS3.out.trans hS)
        clear hS HS3 C3
        go_wp2_with fail
        refine (CM.out _).mono ?_
        rintro e w5 ⟨rfl, hb⟩
        have HS5 := Lib.hid (HS4.out.below hb)
        clear hb HS4 CM
        go_wp2_with fail
        refine (CW.out _).mono ?_
        rintro e w6 ⟨rfl, rfl⟩
        go_wp2_with fail
        exact ⟨rfl, rfl, HS5.out.off⟩
      | some x =>
        simp only [meantP] at CM
        have CM := Lib.hid CM
        go_enter Tryd.func42, Tryd.ntmps42
        go_wp2_with fail
        refine C0.out.mono ?_
        rintro e w1 ⟨rfl, hS⟩
        have HS := Lib.hid hS
        clear hS C0
        go_wp2_with fail
        refine (C1.out _ HS.out).mono ?_
        rintro e w2 ⟨rfl, hS⟩
        have HS2 := Lib.hid (HS.out.trans hS)
        clear hS HS C1
        go_wp2_with fail
        refine (C2.out _ HS2.out.prs).mono ?_
        rintro e w3 ⟨rfl, hS⟩
        have HS3 := Lib.hid (HS2.out.trans hS)
        clear hS HS2 C2
        go_wp2_with fail
        refine (C3.out _ HS3.out).mono ?_
        rintro e w4 ⟨rfl, hS⟩
        have HS4 := Lib.hid (HS3.out.trans hS)
        clear hS HS3 C3
        go_wp2_with fail
        refine (CM.out _).mono ?_
        rintro e w5 ⟨rfl, hb⟩
        have HS5 := Lib.hid (HS4.out.below hb)
        clear hb HS4 CM
        go_wp2_with fail
        go_ret
        exact ⟨_, rfl, rfl, HS5.out⟩
  · rw [if_neg h1]
    have h1b : ((C : Int) != 92) = true := by simp; omega
    clear h0 h1
    go_enter Tryd.func42, Tryd.ntmps42
    go_wp2_with fail
    refine C0.out.mono ?_
    rintro e w1 ⟨rfl, hS⟩
    have HS := Lib.hid hS
    clear hS C0
    go_wp2_with fail
    refine (C1.out _ HS.out).mono ?_
    rintro e w2 ⟨rfl, hS⟩
    have HS2 := Lib.hid (HS.out.trans hS)
    clear hS HS C1
    go_wp2_with fail
    go_ret
    exact ⟨_, rfl, rfl, HS2.out⟩
end Go.Proofs.YtmfcofiihopbfaaDoor

namespace Go.Proofs.YtmfcofiihopbfaaDoor
open Go.RowKit Go.Lib

/-- What a part that answers ranges leaves: a row that was not there, with all numbers fit. -/
def gRng (n0 : Nat) (l : List (Int × Int)) (v : Value) (w' : World) : Prop :=
  ∃ g cap, v = .slice (some ⟨g, 0, none⟩) l.length cap ∧ n0 ≤ g ∧ RngR w' g l ∧ l ≠ [] ∧ l.length ≤ 4 ∧ Bnd l ∧ Fit l
theorem RngR.off {W W' : World} {g pb : Nat} {l : List (Int × Int)} (h : RngR W g l) (o : Off2 pb pb W W') (hne : g ≠ pb) : RngR W' g l := fun j r hj => by
  obtain ⟨⟨a, b⟩, c, d⟩ := h j r hj
  have hk := o.block g (World.block_lt_of_cell? W _ a) hne hne
  exact ⟨⟨(World.cell?_of_block (a := ⟨g, j * 2, none⟩) hk).trans a, (World.cell?_of_block (a := ⟨g, j * 2 + 1, none⟩) hk).trans b⟩, (World.frozen?_of_block (a := ⟨g, j * 2, none⟩) hk).trans c, (World.frozen?_of_block (a := ⟨g, j * 2 + 1, none⟩) hk).trans d⟩
set_option maxRecDepth 100000 in
set_option maxHeartbeats 1000000 in
theorem rx_class {W : World} {pb a : Nat} {s : ByteArray} {b : Bool} {i n : Nat} (h : Prs W pb s b i n) (h2 : st2 s i 91 58 = true) (hs : s.size ≤ 1024) (hE : Env W pb) :
    Calls Tryd.prog 41 #[pbP pb, .int .i64 (a : Int)] W (RxOut (gRng W.heap.size) pb s b n W (clsF s a i)) := by
  have CW := Lib.hid (fun W => rx_wrong pb a W)
  have hlt := Blk.lt h
  have hi2 := st2_lt h2
  have C0 := Lib.hid (rx_take h (by omega) hs ⟨#[91, 58]⟩ true ((pre2 s i 91 58).trans h2) (show 2 ≤ 2 by omega))
  have HE := Lib.hid (fun W1 (j : Nat) (hS : Stp pb s b j n W W1) => hE.step hS hlt)
  have hct := fun (W1 : World) (m : Int) (hm : W1.cell? ⟨2, 0, none⟩ = some (.int .i64 m)) => Tryd.strings_Cut (s.extract (i + 2) s.size) ⟨#[58, 93]⟩ m W1 (by rw [ByteArray.size_extract]; omega) hm
  rw [extract_to_end] at hct
  change ∀ (W1 : World) (m : Int), _ → Calls _ _ _ _ (fun e w' => e = .returned (.tuple #[.string ⟨(cut (s.data.toList.drop (i + 2)) [58, 93]).1.toArray⟩, .string ⟨(cut (s.data.toList.drop (i + 2)) [58, 93]).2.1.toArray⟩, .bool (cut (s.data.toList.drop (i + 2)) [58, 93]).2.2]) ∧ _) at hct
  have hcls := fun l k (h : clsF s a i = .ok l k) => cls_in (s := s) (a := a) (i := i) h
  unfold clsF at hcls ⊢
  obtain ⟨N, hN⟩ : ∃ N, (cut (s.data.toList.drop (i + 2)) [58, 93]).1 = N := ⟨_, rfl⟩
  obtain ⟨R, hR⟩ : ∃ R, (cut (s.data.toList.drop (i + 2)) [58, 93]).2.1 = R := ⟨_, rfl⟩
  obtain ⟨q, hq⟩ : ∃ q, (cut (s.data.toList.drop (i + 2)) [58, 93]).2.2 = q := ⟨_, rfl⟩
  rw [hN, hR, hq] at hct
  rw [hN, hq] at hcls
  rw [hN, hq]
  have CT := Lib.hid hct
  have hNl : N.length = (ByteArray.mk N.toArray).size := by simp [ByteArray.size]
  obtain ⟨S, hS⟩ : ∃ S : ByteArray, ByteArray.mk N.toArray = S := ⟨_, rfl⟩
  have hSl : clsL S.data.toList = clsL N := by rw [← hS]
  rw [hS] at CT hNl
  obtain ⟨M, hM⟩ : ∃ M, clsL N = M := ⟨_, rfl⟩
  rw [hM] at hSl hcls
  rw [hM]
  clear hct h hE hN hR hq hS hM
  cases M with
  | none =>
    have CN := Lib.hid (fun W => rx_codes_none S W hSl)
    have e : (if q = true then (Rs.bad a 90 : Rs (List (Int × Int))) else .bad a 90) = .bad a 90 := by split <;> rfl
    simp only [e]
    clear hcls e hSl
    go_enter Tryd.func41, Tryd.ntmps41
    go_wp2_with fail
    refine C0.out.mono ?_
    rintro e w1 ⟨rfl, hS⟩
    have HS := Lib.hid (show Stp pb s b (i + 2) n W w1 from hS)
    obtain ⟨m, hm⟩ := (HE.out _ _ hS).mx
    obtain ⟨q0, _, q2, _⟩ := HS.out.prs.four
    clear hS C0
    go_wp2_with fail
    go_quiet ((go_at_call 48; exact Calls.quiet_of (CT.out _ m hm)))
    obtain ⟨w2, hw2⟩ : ∃ w2, w1.drewN nq = w2 := ⟨_, rfl⟩
    have HS2 := Lib.hid (show Stp pb s b (i + 2) n W w2 from hw2 ▸ HS.out.dr nq)
    rw [hw2]
    clear hw2 hm q0 q2 CT HS
    go_wp2_with fail
    refine (CN.out _).mono ?_
    rintro e w3 ⟨rfl, rfl⟩
    have hnn := fun (w : World) (A : Option Addr) (n c : Nat) => Lib.run_eql_slice_nil (P := Tryd.prog) w 27 42 A n c 0 0 Tryd.underlying27
    cases q
    · go_wp2_with fail
      refine (CW.out _).mono ?_
      rintro e w4 ⟨rfl, rfl⟩
      go_wp2_with fail
      exact ⟨rfl, rfl, HS2.out.off⟩
    · go_wp2_with fail
      refine (CW.out _).mono ?_
      rintro e w4 ⟨rfl, rfl⟩
      go_wp2_with fail
      exact ⟨rfl, rfl, HS2.out.off⟩
  | some l =>
    have CN := Lib.hid (fun W => rx_codes (l := l) hSl W)
    cases q with
    | false =>
      simp only [Bool.false_eq_true, if_false]
      clear hcls hSl
      go_enter Tryd.func41, Tryd.ntmps41
      go_wp2_with fail
      refine C0.out.mono ?_
      rintro e w1 ⟨rfl, hS⟩
      have HS := Lib.hid (show Stp pb s b (i + 2) n W w1 from hS)
      obtain ⟨m, hm⟩ := (HE.out _ _ hS).mx
      obtain ⟨q0, _, q2, _⟩ := HS.out.prs.four
      clear hS C0
      go_wp2_with fail
      go_quiet ((go_at_call 48; exact Calls.quiet_of (CT.out _ m hm)))
      obtain ⟨w2, hw2⟩ : ∃ w2, w1.drewN nq = w2 := ⟨_, rfl⟩
      have HS2 := Lib.hid (show Stp pb s b (i + 2) n W w2 from hw2 ▸ HS.out.dr nq)
      rw [hw2]
      clear hw2 hm q0 q2 CT HS
      go_wp2_with fail
      refine (CN.out _).mono ?_
      rintro e w3 ⟨rfl, rfl⟩
      go_wp2_with fail
      refine (CW.out _).mono ?_
      rintro e w4 ⟨rfl, rfl⟩
      go_wp2_with fail
      exact ⟨rfl, rfl, (HS2.out.alloc _).off⟩
    | true =>
      have hk := hcls l _ rfl
      simp only [if_true] at hk ⊢
      obtain ⟨c1, c2, c3, c4⟩ := cls_fit hSl
      obtain ⟨k, hk2⟩ : ∃ k, i + 2 + N.length + 2 = k := ⟨_, rfl⟩
      rw [hk2] at hk ⊢
      have hkI : ((i + 2 : Nat) : Int) + ((S.size : Int) + 2) = (k : Int) := by omega
      have hw1 : IntKind.i64.wrap ((S.size : Int) + 2) = (S.size : Int) + 2 := by simp [IntKind.wrap, IntKind.bits, IntKind.signed]; omega
      have hw2 : IntKind.i64.wrap (((i + 2 : Nat) : Int) + ((S.size : Int) + 2)) = (k : Int) := by rw [hkI]; simp [IntKind.wrap, IntKind.bits, IntKind.signed]; omega
      obtain ⟨i2, hi2'⟩ : ∃ i2, i + 2 = i2 := ⟨_, rfl⟩
      rw [hi2'] at CT hw2
      have HC := Lib.hid (And.intro c1 (And.intro c2 (And.intro c3 c4)))
      have hnn := fun (w : World) (A : Option Addr) (n c : Nat) => Lib.run_eql_slice_nil (P := Tryd.prog) w 27 42 A n c 0 0 Tryd.underlying27
      clear hcls hSl hk c1 c2 c3 c4 hkI hk2
      go_enter Tryd.func41, Tryd.ntmps41
      go_wp2_with fail
      refine C0.out.mono ?_
      rintro e w1 ⟨rfl, hS⟩
      have HS := Lib.hid (show Stp pb s b i2 n W w1 from hi2' ▸ hS)
      obtain ⟨m, hm⟩ := (HE.out _ _ HS.out).mx
      obtain ⟨q0, _, q2, _⟩ := HS.out.prs.four
      clear hS C0
      go_wp2_with fail
      go_quiet ((go_at_call 48; exact Calls.quiet_of (CT.out _ m hm)))
      obtain ⟨w2, hw2⟩ : ∃ w2, w1.drewN nq = w2 := ⟨_, rfl⟩
      have HS2 := Lib.hid (show Stp pb s b i2 n W w2 from hw2 ▸ HS.out.dr nq)
      rw [hw2]
      clear hw2 hm q0 q2 CT HS
      go_wp2_with fail
      refine (CN.out _).mono ?_
      rintro e w3 ⟨rfl, rfl⟩
      have R3 := Lib.hid (codeObj_rng w2 l)
      have S3 := HS2.out.alloc (codeObj l)
      have hg3 : w2.heap.size < (w2.alloc (codeObj l)).heap.size := by simp
      have hs2 := HS2.out.off.size
      have hne : w2.heap.size ≠ pb := by have := Blk.lt HS2.out.prs; omega
      obtain ⟨w3, hw3⟩ : ∃ w3, w2.alloc (codeObj l) = w3 := ⟨_, rfl⟩
      rw [hw3] at R3 S3 hg3
      rw [hw3]
      have HS3 := Lib.hid S3
      obtain ⟨_, _, q2, _, f2, _⟩ := S3.prs.four
      clear S3 hw3 HS2
      go_wp2_with fail
      go_ret
      exact ⟨_, rfl, ⟨_, _, rfl, hs2, R3.out.off (Off2.setCell _ _ _ 2 _) hne, HC.out⟩, HS3.out.to k⟩
end Go.Proofs.YtmfcofiihopbfaaDoor

namespace Go.Proofs.YtmfcofiihopbfaaDoor
open Go.RowKit Go.Lib

theorem meant_bnd {c x : Nat} (h : meantF c = some x) (hc : c ≤ 1114367) : x ≤ 1114367 := by
  unfold meantF at h
  iterate 7
    rcases ite_or h with ⟨_, h⟩ | ⟨_, h⟩
    · cases h
      omega
  rcases ite_or h with ⟨_, h⟩ | ⟨_, h⟩
  · cases h
  · cases h
    exact hc
theorem mem_bnd {s : ByteArray} {b : Bool} {a i c k : Nat} (h : memF s b a i = .ok c k) : c ≤ 1114367 := by
  unfold memF at h
  rcases ite_or h with ⟨_, h⟩ | ⟨_, h⟩
  · cases h
  rcases ite_or h with ⟨_, h⟩ | ⟨_, h⟩
  · rcases ite_or h with ⟨_, h⟩ | ⟨_, h⟩
    · cases h
    · cases hm : meantF (nextZ s ((i + (nextZ s i b).2 : Nat) : Int) b).1 with
      | none => rw [hm] at h; cases h
      | some x =>
        rw [hm] at h
        cases h
        exact meant_bnd hm nx_cod
  · cases h
    exact nx_cod
/-- A row of one range. -/
theorem one_rng {W w : World} {pb : Nat} {s : ByteArray} {b : Bool} {k n lo hi : Nat} (hS : Stp pb s b k n W w) (h1 : lo ≤ hi) (h2 : hi ≤ 1114367) :
    RxOut (gRng W.heap.size) pb s b n W (.ok [((lo : Int), (hi : Int))] k) (.returned (.slice (some ⟨w.heap.size, 0, none⟩) 1 1)) (w.alloc (.cells #[.int .i64 (lo : Int), .int .i64 (hi : Int)] 42)) := by
  refine ⟨_, rfl, ⟨w.heap.size, 1, rfl, hS.off.size, codeObj_rng w [((lo : Int), (hi : Int))], by simp, by simp, ?_, ?_⟩, hS.alloc _⟩
  · intro r hr
    simp at hr
    subst hr
    simp only
    omega
  · intro r hr
    simp at hr
    subst hr
    simp only
    omega
theorem gRng_mono {n m : Nat} (h : m ≤ n) {l : List (Int × Int)} {v : Value} {w : World} (hg : gRng n l v w) : gRng m l v w := by
  obtain ⟨g, cap, h1, h2, h3⟩ := hg
  exact ⟨g, cap, h1, Nat.le_trans h h2, h3⟩
set_option maxRecDepth 100000 in
set_option maxHeartbeats 1000000 in
theorem rx_item {W : World} {pb a : Nat} {s : ByteArray} {b : Bool} {i n : Nat} (h : Prs W pb s b i n) (hi : i ≤ s.size) (hs : s.size ≤ 1024) (hE : Env W pb) :
    Calls Tryd.prog 34 #[pbP pb, .int .i64 (a : Int)] W (RxOut (gRng W.heap.size) pb s b n W (itmF s b a i)) := by
  have CW := Lib.hid (fun W => rx_wrong pb a W)
  have hlt := Blk.lt h
  have HE := Lib.hid (fun W1 (j : Nat) (hS : Stp pb s b j n W W1) => hE.step hS hlt)
  obtain ⟨p0, h0⟩ : ∃ p, st2 s i 91 58 = p := ⟨_, rfl⟩
  have C0 := Lib.hid (rx_stands2 h hi 91 58 p0 h0)
  unfold itmF
  rw [h0]
  cases p0 with
  | true =>
    have CC := Lib.hid (fun W1 (hS : Stp pb s b i n W W1) => rx_class (a := a) hS.prs h0 hs (HE.out _ _ hS))
    simp only [if_true]
    clear h hE
    obtain ⟨R, hR⟩ : ∃ R, clsF s a i = R := ⟨_, rfl⟩
    rw [hR] at CC ⊢
    clear hR
    cases R with
    | bad k er =>
      go_enter Tryd.func34, Tryd.ntmps34
      go_wp2_with fail
      refine C0.out.mono ?_
      rintro e w1 ⟨rfl, hS⟩
      have HS := Lib.hid hS
      clear hS C0
      go_wp2_with fail
      refine (CC.out _ HS.out).mono ?_
      rintro e w2 ⟨rfl, hO⟩
      have HO := Lib.hid hO
      clear hO
      go_wp2_with fail
      exact ⟨rfl, rfl, HS.out.off.trans HO.out⟩
    | ok l k =>
      go_enter Tryd.func34, Tryd.ntmps34
      go_wp2_with fail
      refine C0.out.mono ?_
      rintro e w1 ⟨rfl, hS⟩
      have HS := Lib.hid hS
      clear hS C0
      go_wp2_with fail
      refine (CC.out _ HS.out).mono ?_
      rintro e w2 ⟨v, rfl, hG, hS⟩
      have HS2 := Lib.hid (HS.out.trans hS)
      have HG := Lib.hid (gRng_mono HS.out.off.size hG)
      clear hS hG
      go_wp2_with fail
      go_ret
      exact ⟨_, rfl, HG.out, HS2.out⟩
  | false =>
    simp only [Bool.false_eq_true, if_false]
    have CM := Lib.hid (fun W1 (hS : Stp pb s b i n W W1) => rx_member (a := a) hS.prs hi hs (HE.out _ _ hS))
    cases hm : memF s b a i with
    | bad k er =>
      rw [hm] at CM
      clear h hE h0
      go_enter Tryd.func34, Tryd.ntmps34
      go_wp2_with fail
      refine C0.out.mono ?_
      rintro e w1 ⟨rfl, hS⟩
      have HS := Lib.hid hS
      clear hS C0
      go_wp2_with fail
      refine (CM.out _ HS.out).mono ?_
      rintro e w2 ⟨rfl, hO⟩
      have HO := Lib.hid hO
      clear hO
      go_wp2_with fail
      exact ⟨rfl, rfl, HS.out.off.trans HO.out⟩
    | ok lo k1 =>
      rw [hm] at CM
      have hk1 := mem_in hi hm
      have hlo := mem_bnd hm
      have irr : ¬ (lo : Int) > (lo : Int) := Int.lt_irrefl _
      obtain ⟨p1, h1⟩ : ∃ p, st2 s k1 45 93 = p := ⟨_, rfl⟩
      have C1 := Lib.hid (fun W1 (hS : Stp pb s b k1 n W W1) => rx_stands2 hS.prs hk1.2 45 93 p1 h1)
      obtain ⟨p2, h2⟩ : ∃ p, st1 s k1 45 = p := ⟨_, rfl⟩
      have C2 := Lib.hid (fun W1 (hS : Stp pb s b k1 n W W1) => rx_take1 hS.prs hk1.2 hs 45 p2 h2)
      simp only [h1, h2]
      clear h hE h0 hm h1
      cases p1 with
      | true =>
        simp only [Bool.not_true, Bool.false_and, Bool.false_eq_true, if_false]
        go_enter Tryd.func34, Tryd.ntmps34
        go_wp2_with fail
        refine C0.out.mono ?_
        rintro e w1 ⟨rfl, hS⟩
        have HS := Lib.hid hS
        clear hS C0
        go_wp2_with fail
        refine (CM.out _ HS.out).mono ?_
        rintro e w2 ⟨v, rfl, rfl, hS⟩
        have HS2 := Lib.hid (HS.out.trans hS)
        clear hS HS CM
        go_wp2_with fail
        refine (C1.out _ HS2.out).mono ?_
        rintro e w3 ⟨rfl, hS⟩
        have HS3 := Lib.hid (HS2.out.trans hS)
        clear hS HS2 C1
        go_wp2_with fail
        go_ret
        exact one_rng HS3.out (Nat.le_refl _) hlo
      | false =>
        simp only [Bool.not_false, Bool.true_and]
        cases p2 with
        | false =>
          simp only [Bool.false_eq_true, if_false]
          go_enter Tryd.func34, Tryd.ntmps34
          go_wp2_with fail
          refine C0.out.mono ?_
          rintro e w1 ⟨rfl, hS⟩
          have HS := Lib.hid hS
          clear hS C0
          go_wp2_with fail
          refine (CM.out _ HS.out).mono ?_
          rintro e w2 ⟨v, rfl, rfl, hS⟩
          have HS2 := Lib.hid (HS.out.trans hS)
          clear hS HS CM
          go_wp2_with fail
          refine (C1.out _ HS2.out).mono ?_
          rintro e w3 ⟨rfl, hS⟩
          have HS3 := Lib.hid (HS2.out.trans hS)
          clear hS HS2 C1
          go_wp2_with fail
          refine (C2.out _ HS3.out).mono ?_
          rintro e w4 ⟨rfl, hS⟩
          have HS4 := Lib.hid (HS3.out.trans hS)
          clear hS HS3 C2
          go_wp2_with fail
          go_ret
          exact one_rng HS4.out (Nat.le_refl _) hlo
        | true =>
          simp only [if_true]
          have hk2 := st1_lt h2
          obtain ⟨p3, h3⟩ : ∃ p, st2 s (k1 + 1) 91 58 = p := ⟨_, rfl⟩
          have C3 := Lib.hid (fun W1 (hS : Stp pb s b (k1 + 1) n W W1) => rx_stands2 hS.prs hk2 91 58 p3 h3)
          have CN := Lib.hid (fun W1 (hS : Stp pb s b (k1 + 1) n W W1) => rx_member (a := a) hS.prs hk2 hs (HE.out _ _ hS))
          rw [h3]
          cases p3 with
          | true =>
            simp only [if_true]
            clear h2 h3 CN
            go_enter Tryd.func34, Tryd.ntmps34
            go_wp2_with fail
            refine C0.out.mono ?_
            rintro e w1 ⟨rfl, hS⟩
            have HS := Lib.hid hS
            clear hS C0
            go_wp2_with fail
            refine (CM.out _ HS.out).mono ?_
            rintro e w2 ⟨v, rfl, rfl, hS⟩
            have HS2 := Lib.hid (HS.out.trans hS)
            clear hS HS CM
            go_wp2_with fail
            refine (C1.out _ HS2.out).mono ?_
            rintro e w3 ⟨rfl, hS⟩
            have HS3 := Lib.hid (HS2.out.trans hS)
            clear hS HS2 C1
            go_wp2_with fail
            refine (C2.out _ HS3.out).mono ?_
            rintro e w4 ⟨rfl, hS⟩
            have HS4 := Lib.hid (show Stp pb s b (k1 + 1) n W w4 from HS3.out.trans hS)
            clear hS HS3 C2
            go_wp2_with fail
            refine (C3.out _ HS4.out).mono ?_
            rintro e w5 ⟨rfl, hS⟩
            have HS5 := Lib.hid (HS4.out.trans hS)
            clear hS HS4 C3
            go_wp2_with fail
            refine (CW.out _).mono ?_
            rintro e w6 ⟨rfl, rfl⟩
            go_wp2_with fail
            exact ⟨rfl, rfl, HS5.out.off⟩
          | false =>
            simp only [Bool.false_eq_true, if_false]
            clear h2 h3
            cases hm2 : memF s b a (k1 + 1) with
            | bad k er =>
              rw [hm2] at CN
              clear hm2
              go_enter Tryd.func34, Tryd.ntmps34
              go_wp2_with fail
              refine C0.out.mono ?_
              rintro e w1 ⟨rfl, hS⟩
              have HS := Lib.hid hS
              clear hS C0
              go_wp2_with fail
              refine (CM.out _ HS.out).mono ?_
              rintro e w2 ⟨v, rfl, rfl, hS⟩
              have HS2 := Lib.hid (HS.out.trans hS)
              clear hS HS CM
              go_wp2_with fail
              refine (C1.out _ HS2.out).mono ?_
              rintro e w3 ⟨rfl, hS⟩
              have HS3 := Lib.hid (HS2.out.trans hS)
              clear hS HS2 C1
              go_wp2_with fail
              refine (C2.out _ HS3.out).mono ?_
              rintro e w4 ⟨rfl, hS⟩
              have HS4 := Lib.hid (show Stp pb s b (k1 + 1) n W w4 from HS3.out.trans hS)
              clear hS HS3 C2
              go_wp2_with fail
              refine (C3.out _ HS4.out).mono ?_
              rintro e w5 ⟨rfl, hS⟩
              have HS5 := Lib.hid (HS4.out.trans hS)
              clear hS HS4 C3
              go_wp2_with fail
              refine (CN.out _ HS5.out).mono ?_
              rintro e w6 ⟨rfl, hO⟩
              have HO := Lib.hid hO
              clear hO
              go_wp2_with fail
              exact ⟨rfl, rfl, HS5.out.off.trans HO.out⟩
            | ok hi2 k2 =>
              rw [hm2] at CN
              have hhi := mem_bnd hm2
              clear hm2
              simp only
              by_cases hlh : hi2 < lo
              · rw [if_pos hlh]
                have hg : (lo : Int) > (hi2 : Int) := by omega
                go_enter Tryd.func34, Tryd.ntmps34
                go_wp2_with fail
                refine C0.out.mono ?_
                rintro e w1 ⟨rfl, hS⟩
                have HS := Lib.hid hS
                clear hS C0
                go_wp2_with fail
                refine (CM.out _ HS.out).mono ?_
                rintro e w2 ⟨v, rfl, rfl, hS⟩
                have HS2 := Lib.hid (HS.out.trans hS)
                clear hS HS CM
                go_wp2_with fail
                refine (C1.out _ HS2.out).mono ?_
                rintro e w3 ⟨rfl, hS⟩
                have HS3 := Lib.hid (HS2.out.trans hS)
                clear hS HS2 C1
                go_wp2_with fail
                refine (C2.out _ HS3.out).mono ?_
                rintro e w4 ⟨rfl, hS⟩
                have HS4 := Lib.hid (show Stp pb s b (k1 + 1) n W w4 from HS3.out.trans hS)
                clear hS HS3 C2
                go_wp2_with fail
                refine (C3.out _ HS4.out).mono ?_
                rintro e w5 ⟨rfl, hS⟩
                have HS5 := Lib.hid (HS4.out.trans hS)
                clear hS HS4 C3
                go_wp2_with fail
                refine (CN.out _ HS5.out).mono ?_
                rintro e w6 ⟨v, rfl, rfl, hS⟩
                have HS6 := Lib.hid (HS5.out.trans hS)
                clear hS HS5 CN
                go_wp2_with fail
                refine (CW.out _).mono ?_
                rintro e w7 ⟨rfl, rfl⟩
                go_wp2_with fail
                exact ⟨rfl, rfl, HS6.out.off⟩
              · rw [if_neg hlh]
                have hg : ¬ (lo : Int) > (hi2 : Int) := by omega
                go_enter Tryd.func34, Tryd.ntmps34
                go_wp2_with fail
                refine C0.out.mono ?_
                rintro e w1 ⟨rfl, hS⟩
                have HS := Lib.hid hS
                clear hS C0
                go_wp2_with fail
                refine (CM.out _ HS.out).mono ?_
                rintro e w2 ⟨v, rfl, rfl, hS⟩
                have HS2 := Lib.hid (HS.out.trans hS)
                clear hS HS CM
                go_wp2_with fail
                refine (C1.out _ HS2.out).mono ?_
                rintro e w3 ⟨rfl, hS⟩
                have HS3 := Lib.hid (HS2.out.trans hS)
                clear hS HS2 C1
                go_wp2_with fail
                refine (C2.out _ HS3.out).mono ?_
                rintro e w4 ⟨rfl, hS⟩
                have HS4 := Lib.hid (show Stp pb s b (k1 + 1) n W w4 from HS3.out.trans hS)
                clear hS HS3 C2
                go_wp2_with fail
                refine (C3.out _ HS4.out).mono ?_
                rintro e w5 ⟨rfl, hS⟩
                have HS5 := Lib.hid (HS4.out.trans hS)
                clear hS HS4 C3
                go_wp2_with fail
                refine (CN.out _ HS5.out).mono ?_
                rintro e w6 ⟨v, rfl, rfl, hS⟩
                have HS6 := Lib.hid (HS5.out.trans hS)
                clear hS HS5 CN
                go_wp2_with fail
                go_ret
                exact one_rng HS6.out (by omega) hhi
end Go.Proofs.YtmfcofiihopbfaaDoor

namespace Go.Proofs.YtmfcofiihopbfaaDoor
open Go.Lib

theorem nx_asc (s : ByteArray) (i : Nat) (b : Bool) (h : i < s.size) (hc : (s.get! i).toNat < 128) : nextZ s (i : Int) b = ((s.get! i).toNat, 1) := by
  unfold nextZ
  rw [if_neg (by omega), Int.toNat_natCast]
  cases b with
  | true => rfl
  | false =>
    rw [if_neg (by simp), chS, chN, dec_one _ _ _ _ _ hc, if_neg (by simp only [Prod.mk.injEq]; omega)]
theorem get_of_drop {s : ByteArray} {i : Nat} {c : UInt8} {l : List UInt8} (h : s.data.toList.drop i = c :: l) : i < s.size ∧ s.get! i = c ∧ s.data.toList.drop (i + 1) = l := by
  have hi : i < s.size := by
    rcases Nat.lt_or_ge i s.size with h1 | h1
    · exact h1
    · rw [rx_drop0 s i h1] at h
      cases h
  rw [rx_drop s i hi] at h
  injection h with h1 h2
  exact ⟨hi, h1, h2⟩
end Go.Proofs.YtmfcofiihopbfaaDoor

namespace Go.Proofs.YtmfcofiihopbfaaDoor
open Go.Lib

/-- Decoding at two places that begin alike. -/
theorem dec_local (n n' b0 b1 b2 b3 c1 c2 c3 : Nat) (hb0 : b0 < 256)
    (h1 : 1 < n' ∧ c1 / 64 = 2 → 1 < n ∧ b1 = c1) (h2 : (1 < n' ∧ c1 / 64 = 2) ∧ (2 < n' ∧ c2 / 64 = 2) → 2 < n ∧ b2 = c2) (h3 : (1 < n' ∧ c1 / 64 = 2) ∧ (2 < n' ∧ c2 / 64 = 2) ∧ (3 < n' ∧ c3 / 64 = 2) → 3 < n ∧ b3 = c3)
    (e1 : 2 ≤ (decodeN n b0 b1 b2 b3).2 → 1 < n' ∧ c1 = b1) (e2 : 3 ≤ (decodeN n b0 b1 b2 b3).2 → 2 < n' ∧ c2 = b2) (e3 : 4 ≤ (decodeN n b0 b1 b2 b3).2 → 3 < n' ∧ c3 = b3) :
    decodeN n' b0 c1 c2 c3 = decodeN n b0 b1 b2 b3 := by
  by_cases a1 : b0 < 128
  · rw [dec_one _ _ _ _ _ a1, dec_one _ _ _ _ _ a1]
  by_cases a2 : 194 ≤ b0 ∧ b0 ≤ 223
  · by_cases v : 2 ≤ n ∧ b1 / 64 = 2
    · have hd := dec_two n b0 b1 b2 b3 v.1 v.2 a2
      rw [hd] at e1 ⊢
      obtain ⟨x1, rfl⟩ := e1 (Nat.le_refl _)
      exact dec_two n' b0 c1 c2 c3 x1 v.2 a2
    · rw [dec_none n b0 b1 b2 b3 (by omega), dec_none n' b0 c1 c2 c3 (by omega)]
  by_cases a3 : 224 ≤ b0 ∧ b0 ≤ 239
  · by_cases v : 3 ≤ n ∧ b1 / 64 = 2 ∧ b2 / 64 = 2
    · obtain ⟨r, hr⟩ : ∃ r, r = b0 % 16 * 4096 + b1 % 64 * 64 + b2 % 64 := ⟨_, rfl⟩
      have hd := dec_three n b0 b1 b2 b3 r v.1 v.2.1 v.2.2 a3 hr
      by_cases hx : r < 2048 ∨ 1114111 < r ∨ (55296 ≤ r ∧ r ≤ 57343)
      · rw [if_pos hx] at hd
        rw [hd]
        by_cases v' : 3 ≤ n' ∧ c1 / 64 = 2 ∧ c2 / 64 = 2
        · obtain ⟨_, rfl⟩ := h1 ⟨by omega, v'.2.1⟩
          obtain ⟨_, rfl⟩ := h2 ⟨⟨by omega, v'.2.1⟩, by omega, v'.2.2⟩
          rw [dec_three n' b0 b1 b2 c3 r v'.1 v.2.1 v.2.2 a3 hr, if_pos hx]
        · rw [dec_none n' b0 c1 c2 c3 (by omega)]
      · rw [if_neg hx] at hd
        rw [hd] at e1 e2 ⊢
        obtain ⟨_, rfl⟩ := e1 (show 2 ≤ 3 by decide)
        obtain ⟨x2, rfl⟩ := e2 (show 3 ≤ 3 by decide)
        rw [dec_three n' b0 c1 c2 c3 r x2 v.2.1 v.2.2 a3 hr, if_neg hx]
    · rw [dec_none n b0 b1 b2 b3 (by omega), dec_none n' b0 c1 c2 c3 (by omega)]
  by_cases a4 : 240 ≤ b0 ∧ b0 ≤ 244
  · by_cases v : 4 ≤ n ∧ b1 / 64 = 2 ∧ b2 / 64 = 2 ∧ b3 / 64 = 2
    · obtain ⟨r, hr⟩ : ∃ r, r = b0 % 8 * 262144 + b1 % 64 * 4096 + b2 % 64 * 64 + b3 % 64 := ⟨_, rfl⟩
      have hd := dec_four n b0 b1 b2 b3 r v.1 v.2.1 v.2.2.1 v.2.2.2 a4 hr
      by_cases hx : r < 65536 ∨ 1114111 < r ∨ (55296 ≤ r ∧ r ≤ 57343)
      · rw [if_pos hx] at hd
        rw [hd]
        by_cases v' : 4 ≤ n' ∧ c1 / 64 = 2 ∧ c2 / 64 = 2 ∧ c3 / 64 = 2
        · obtain ⟨_, rfl⟩ := h1 ⟨by omega, v'.2.1⟩
          obtain ⟨_, rfl⟩ := h2 ⟨⟨by omega, v'.2.1⟩, by omega, v'.2.2.1⟩
          obtain ⟨_, rfl⟩ := h3 ⟨⟨by omega, v'.2.1⟩, ⟨by omega, v'.2.2.1⟩, by omega, v'.2.2.2⟩
          rw [dec_four n' b0 b1 b2 b3 r v'.1 v.2.1 v.2.2.1 v.2.2.2 a4 hr, if_pos hx]
        · rw [dec_none n' b0 c1 c2 c3 (by omega)]
      · rw [if_neg hx] at hd
        rw [hd] at e1 e2 e3 ⊢
        obtain ⟨_, rfl⟩ := e1 (show 2 ≤ 4 by decide)
        obtain ⟨_, rfl⟩ := e2 (show 3 ≤ 4 by decide)
        obtain ⟨x3, rfl⟩ := e3 (show 4 ≤ 4 by decide)
        rw [dec_four n' b0 c1 c2 c3 r x3 v.2.1 v.2.2.1 v.2.2.2 a4 hr, if_neg hx]
    · rw [dec_none n b0 b1 b2 b3 (by omega), dec_none n' b0 c1 c2 c3 (by omega)]
  · rw [dec_none n b0 b1 b2 b3 (by omega), dec_none n' b0 c1 c2 c3 (by omega)]

/-- Two strings at two places: the same character. -/
theorem next_local (s t : ByteArray) (p q : Nat) (hp : p < s.size) (hq : q < t.size) (h0 : t.get! q = s.get! p)
    (hc : ∀ i, i < 3 → (∀ j, j ≤ i → q + 1 + j < t.size ∧ (t.get! (q + 1 + j)).toNat / 64 = 2) → p + 1 + i < s.size ∧ s.get! (p + 1 + i) = t.get! (q + 1 + i))
    (hw : ∀ i, i + 1 < wid s false p → q + 1 + i < t.size ∧ t.get! (q + 1 + i) = s.get! (p + 1 + i)) :
    nextZ t (q : Int) false = nextZ s (p : Int) false := by
  have e : decodeN (t.size - q) (t.get! q).toNat (t.get! (q + 1)).toNat (t.get! (q + 2)).toNat (t.get! (q + 3)).toNat = decodeN (s.size - p) (s.get! p).toNat (s.get! (p + 1)).toNat (s.get! (p + 2)).toNat (s.get! (p + 3)).toNat := by
    rw [h0]
    rw [wid_char s p hp] at hw
    refine dec_local _ _ _ _ _ _ _ _ _ (get!_lt256 s p) ?_ ?_ ?_ ?_ ?_ ?_
    · rintro ⟨x1, x2⟩
      obtain ⟨a, b⟩ := hc 0 (by decide) (fun j hj => by obtain rfl : j = 0 := (by omega); exact ⟨by omega, x2⟩)
      exact ⟨by omega, congrArg UInt8.toNat b⟩
    · rintro ⟨⟨x1, x2⟩, x3, x4⟩
      obtain ⟨a, b⟩ := hc 1 (by decide) (fun j hj => by
        rcases (by omega : j = 0 ∨ j = 1) with rfl | rfl
        · exact ⟨by omega, x2⟩
        · exact ⟨by omega, x4⟩)
      exact ⟨by omega, congrArg UInt8.toNat b⟩
    · rintro ⟨⟨x1, x2⟩, ⟨x3, x4⟩, x5, x6⟩
      obtain ⟨a, b⟩ := hc 2 (by decide) (fun j hj => by
        rcases (by omega : j = 0 ∨ j = 1 ∨ j = 2) with rfl | rfl | rfl
        · exact ⟨by omega, x2⟩
        · exact ⟨by omega, x4⟩
        · exact ⟨by omega, x6⟩)
      exact ⟨by omega, congrArg UInt8.toNat b⟩
    · intro h
      obtain ⟨a, b⟩ := hw 0 (by omega)
      exact ⟨by omega, congrArg UInt8.toNat b⟩
    · intro h
      obtain ⟨a, b⟩ := hw 1 (by omega)
      exact ⟨by omega, congrArg UInt8.toNat b⟩
    · intro h
      obtain ⟨a, b⟩ := hw 2 (by omega)
      exact ⟨by omega, congrArg UInt8.toNat b⟩
  have z : ∀ (u : ByteArray) (j : Nat), j < u.size → nextZ u (j : Int) false = chS u j := fun u j h => by
    unfold nextZ; rw [if_neg (by omega)]; rfl
  rw [z t q hq, z s p hp]
  unfold chS chN
  rw [e, h0]
end Go.Proofs.YtmfcofiihopbfaaDoor
