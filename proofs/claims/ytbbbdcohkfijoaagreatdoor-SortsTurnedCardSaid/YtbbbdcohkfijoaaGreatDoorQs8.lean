/- Several texts in one (Layer 7's laws: what they ask of three entries; Layer 7's laws: three entries; what Order leaves; Layer 7's laws: the entries; the walk of SortsKeys; Layer 7's laws: the entries; the walk of SortsKeys; Layer 7's laws: the walk of SortsTurned). -/
import Derived.Deep.QuietTactic
import Derived.BigQuiet
import Derived.Test.YtbbbdcohkfijoaaGreatDoorQs7
namespace Go.Proofs.YtbbbdcohkfijoaaGreatDoor
open Go.RowKit Go.Lib

/-- Two slices of the same numbers. -/
theorem srtSame_yes {A B : Option Addr} {n c d : Nat} {xs : List Nat} (hn : xs.length = n) (hl : n ≤ 1000) {w : World} (hA : Rd .i64 w A xs) (hB : Rd .i64 w B xs) :
    Calls Tryz.prog 94 #[.slice A n c, .slice B n d] w fun e w' => e = .returned (.bool true) ∧ Below w.heap.size w w' := by
  have HA := Lib.hid hA
  have HB := Lib.hid hB
  have HN := Lib.hid hn
  clear hA hB hn
  go_enter Tryz.func94, Tryz.ntmps94
  go_wp2
  go_loopw [13] (fun kv wr => ∃ k : Nat, kv = .int .i64 (k : Int) ∧ k ≤ n ∧ Below w.heap.size w wr) (fun kv _ => n - (RowKit.intOf kv).toNat)
  case atStart => exact ⟨0, rfl, Nat.zero_le _, Below.refl _ _⟩
  case round =>
    obtain ⟨k, rfl, hk, hB⟩ := hrel
    by_cases hlt : k < n
    · have hkl : k < xs.length := by rw [HN.out]; exact hlt
      obtain ⟨b1, o1, e1, c1⟩ := HA.out.below hB k hkl
      obtain ⟨b2, o2, e2, c2⟩ := HB.out.below hB k hkl
      subst e1
      subst e2
      obtain ⟨x, hx⟩ : ∃ x : Nat, xs[k] = x := ⟨_, rfl⟩
      rw [hx] at c1 c2
      have HBW := Lib.hid hB
      clear hx hB
      go_wp2_with fail
      go_region_held3 (fun w' => w'.cell? ⟨b1, o1 + k, none⟩ = some (.int .i64 (x : Int)) ∧ w'.cell? ⟨b2, o2 + k, none⟩ = some (.int .i64 (x : Int))) (go_keep) (fail)
      all_goals
        clear c1 c2
        go_wp2_with fail
        refine ⟨⟨k + 1, rfl, by omega, ?_⟩, ?_⟩
        · exact ⟨HBW.out.os, HBW.out.tape, HBW.out.output, HBW.out.size, HBW.out.block⟩
        · simp [RowKit.intOf]
          omega
    · have hkn : k = n := by omega
      subst hkn
      go_wp2_with fail
      go_ret
      exact ⟨rfl, hB⟩
theorem ltV_is {cv : Nat → Nat → Int} {way : Int} (h : CmpW cv) (hw : way = 1 ∨ way = -1) (a b : Nat) : ltV cv way a b = if cv a b = 0 then decide (a < b) else decide (cv a b * way < 0) := by
  have hb := h.bd a b
  unfold ltV lessB
  have e : IntKind.i64.wrap (cv a b * way) = cv a b * way := by
    exact IntWalk.i64_in _ (by rcases hw with rfl | rfl <;> omega)
  rw [e]
  by_cases h0 : cv a b = 0
  · rw [if_pos h0, h0, Int.zero_mul, if_pos rfl]
    simp
  · rw [if_neg h0, if_neg (by rcases hw with rfl | rfl <;> omega)]
theorem pre_ten : preN [49, 48] = 4621819117588971520 := by
  rw [preN_fw (b := false) (X1 := [49, 48]) (X2 := []) (xe := 0) (z := 2) (m := 10) (by rfl) (by omega) (by decide)]
  decide +kernel
theorem pre_nine : preN [57] = 4621256167635550208 := by
  rw [preN_fw (b := false) (X1 := [57]) (X2 := []) (xe := 0) (z := 1) (m := 9) (by rfl) (by omega) (by decide)]
  decide +kernel
theorem pre_x : preN [120] = 0 := by
  rw [preN_fw (b := false) (X1 := []) (X2 := []) (xe := 0) (z := 0) (m := 0) (by rfl) (by omega) (by decide)]
  decide +kernel
theorem srtOf_any (x : Nat) (w : World) : Calls Tryz.prog 93 #[.float .f64 x] w fun e w' => e = .returned (.agg #[.int .i64 1, .float .f64 x, .string ⟨#[]⟩]) ∧ Below w.heap.size w w' := by
  have F := Blk.new w #[.int .i64 0, .float .f64 0, .string ⟨#[]⟩] 48
  have q0 := F.cell 0
  have q1 := F.cell 1
  have q2 := F.cell 2
  have r0 := F.fro 0
  have r1 := F.fro 1
  have r2 := F.fro 2
  have hst := srt_store_float
  clear F
  go_enter Tryz.func93, Tryz.ntmps93
  go_wp2_with fail
  exact bodyPost_ret (v := .agg #[.int .i64 1, .float .f64 x, .string ⟨#[]⟩]) (by simp [results, Tryz.results93, go_sem]) rfl ⟨rfl, (Below.refl w.heap.size w).alloc (Nat.le_refl _) _⟩
/-- The three entries. -/
def fx3 : List Dat := [⟨⟨#[49, 48]⟩, 0, 0, ⟨#[]⟩, false⟩, ⟨⟨#[57]⟩, 0, 0, ⟨#[]⟩, true⟩, ⟨⟨#[120]⟩, 1, 13830554455654793216, ⟨#[]⟩, false⟩]
theorem fx3_fits : Fits fx3 := fun x hx => by
  simp [fx3] at hx
  rcases hx with rfl | rfl | rfl <;> decide
theorem fx_keys : InOrder (ltV (fun a b => cKeyN (fx3.getD a d00) (fx3.getD b d00)) 1) 3 [2, 1, 0] := by
  have hc := (ord_keyN (how := n3) (way := 1) ⟨#[]⟩ (by unfold ordT; simp) (by decide) (Or.inl rfl)).2.1 (fun a => fx3.getD a d00)
  have p0 : (rdKey (fx3.getD 0 d00)).num = 4621819117588971520 := by
    simp only [rdKey]
    rw [show (fx3.getD 0 d00).key.data.toList = [49, 48] from rfl]
    exact pre_ten
  have p1 : (rdKey (fx3.getD 1 d00)).num = 4621256167635550208 := by
    simp only [rdKey]
    rw [show (fx3.getD 1 d00).key.data.toList = [57] from rfl]
    exact pre_nine
  have p2 : (rdKey (fx3.getD 2 d00)).num = 0 := by
    simp only [rdKey]
    rw [show (fx3.getD 2 d00).key.data.toList = [120] from rfl]
    exact pre_x
  have q21 : cKeyN (fx3.getD 2 d00) (fx3.getD 1 d00) = -1 := by
    unfold cKeyN
    rw [p1, p2, show cmpN 0 4621256167635550208 = -1 by decide +kernel]
    rfl
  have q10 : cKeyN (fx3.getD 1 d00) (fx3.getD 0 d00) = -1 := by
    unfold cKeyN
    rw [p1, p0, show cmpN 4621256167635550208 4621819117588971520 = -1 by decide +kernel]
    rfl
  have q20 : cKeyN (fx3.getD 2 d00) (fx3.getD 0 d00) = -1 := by
    unfold cKeyN
    rw [p0, p2, show cmpN 0 4621819117588971520 = -1 by decide +kernel]
    rfl
  refine ⟨?_, fun a => ?_, rfl⟩
  · simp only [List.pairwise_cons, List.mem_cons, List.not_mem_nil, or_false, forall_eq_or_imp, forall_eq]
    simp only [ltV_is hc (Or.inl rfl), q21, q10, q20]
    simp
  · simp
    omega
theorem fx_vals : InOrder (ltV (fun a b => cvV (rdNum (fx3.getD a d00)) (rdNum (fx3.getD b d00))) (-1)) 3 [1, 0, 2] := by
  have hc := (ord_count (how := n8) (way := -1) ⟨#[]⟩ (by unfold ordT; simp) (by decide) (Or.inr rfl)).2.1 (fun a => fx3.getD a d00)
  have e0 : rdNum (fx3.getD 0 d00) = ⟨⟨#[49, 48]⟩, 1, 0, ⟨#[]⟩, false⟩ := by unfold rdNum numV2; rfl
  have e1 : rdNum (fx3.getD 1 d00) = ⟨⟨#[57]⟩, 1, 0, ⟨#[]⟩, true⟩ := by unfold rdNum numV2; rfl
  have e2 : rdNum (fx3.getD 2 d00) = ⟨⟨#[120]⟩, 1, 13830554455654793216, ⟨#[]⟩, false⟩ := by unfold rdNum numV2; rfl
  have q10 : cvV (rdNum (fx3.getD 1 d00)) (rdNum (fx3.getD 0 d00)) = 2 := by
    rw [e0, e1]
    unfold cvV
    rw [if_pos (by decide)]
    decide
  have q12 : cvV (rdNum (fx3.getD 1 d00)) (rdNum (fx3.getD 2 d00)) = 2 := by
    rw [e2, e1]
    unfold cvV
    rw [if_pos (by decide)]
    decide
  have q02 : cvV (rdNum (fx3.getD 0 d00)) (rdNum (fx3.getD 2 d00)) = 1 := by
    rw [e0, e2]
    unfold cvV
    rw [if_neg (by decide), if_neg (by decide)]
    unfold numV2
    rw [if_pos (by decide), if_pos (by decide)]
    decide +kernel
  refine ⟨?_, fun a => ?_, rfl⟩
  · simp only [List.pairwise_cons, List.mem_cons, List.not_mem_nil, or_false, forall_eq_or_imp, forall_eq]
    simp only [ltV_is hc (Or.inr rfl), q10, q12, q02]
    simp
  · simp
    omega
end Go.Proofs.YtbbbdcohkfijoaaGreatDoor

namespace Go.Proofs.YtbbbdcohkfijoaaGreatDoor
open Go.RowKit Go.Lib

/-- A slice of the call's own, of entries, as one that is read. -/
theorem rde_of_own {W : World} {B : Nat} {t : TypeId} {v : Value} {es : List Dat} (h : W.ownsRow B t 5 v es.length (entsC es)) : ∃ A cap, v = .slice A es.length cap ∧ RdE W A es ∧ es.length ≤ cap := by
  rcases h.2 with ⟨rfl, h0⟩ | ⟨q, cap, cur, rfl, hb, hg, h1, h2, h3, h4⟩
  · refine ⟨none, 0, by rw [h0], fun j hj => absurd hj (by omega), by omega⟩
  · refine ⟨_, cap, rfl, fun j hj => ⟨q, 0, rfl, fun i hi => ?_⟩, h1⟩
    have hc := World.ownsRow.cellAt h (j * 5 + i) (by omega)
    rw [show 0 + j * 5 + i = j * 5 + i by omega, hc]
    exact entsC_at hj hi
theorem rdE_three {W : World} {b : Nat} {t : TypeId} {es : List Dat} (h : Blk W b (entsC es).toArray t) : RdE W (some ⟨b, 0, none⟩) es := fun j hj => ⟨b, 0, rfl, fun i hi => by
  rw [h.cell]
  rw [show 0 + j * 5 + i = j * 5 + i by omega]
  simpa using entsC_at hj hi⟩
theorem order_sure {how conv : ByteArray} {c : Dat → Dat → Int} {way : Int} (ob : OrderBy how conv c way) {A : Option Addr} {n cap : Nat} {es : List Dat} {out : List Nat} {W : World} (hn : es.length = n) (hl : n ≤ 1000) (hR : RdE W A es) (hT : PowTab W) (hF : Fits es)
    (ho : InOrder (ltV (fun a b => c (es.getD a d00) (es.getD b d00)) way) n out) :
    Calls Tryz.prog 35 #[.slice A n cap, .string how, .string conv] W fun e w' => ∃ v, e = .returned (.tuple #[v, .int .i64 0]) ∧ Own .i64 w' W.heap.size 3 v out ∧ Below W.heap.size W w' := by
  subst hn
  refine (ob.2.2 A cap es W hl hR hT hF).mono ?_
  rintro e w' ⟨v, o, rfl, hi, hO, hb⟩
  rw [hi.uniq ((ob.2.1 fun a => es.getD a d00).ord ob.1) ho] at hO
  exact ⟨v, rfl, hO, hb⟩
theorem own_three {w : World} {a b c : Nat} : Own .i64 (w.alloc (.cells #[.int .i64 (a : Int), .int .i64 (b : Int), .int .i64 (c : Int)] 3)) w.heap.size 3 (.slice (some ⟨w.heap.size, 0, none⟩) 3 3) [a, b, c] :=
  ⟨rfl, Or.inr ⟨w.heap.size, 3, _, rfl, Nat.le_refl _, heap_alloc_new w _, Nat.le_refl 3, by decide, rfl, rfl⟩⟩
set_option maxRecDepth 100000 in
set_option maxHeartbeats 4000000 in
theorem srtFixed_any (w : World) (hT : PowTab w) : Calls Tryz.prog 33 #[] w fun e w' => e = .returned (.bool true) ∧ Below w.heap.size w w' := by
  have CF := Lib.hid (fun W => srtOf_any 13830554455654793216 W)
  have HT := Lib.hid (Lib.tabBelow_of_tabIs hT)
  clear hT
  have CS := Lib.hid (fun (n c d : Nat) (A B : Option Addr) (xs : List Nat) (hn : xs.length = n) (hl : n ≤ 1000) (W : World) (hA : Rd .i64 W A xs) (hB : Rd .i64 W B xs) => srtSame_yes (c := c) (d := d) hn hl hA hB)
  go_enter Tryz.func33, Tryz.ntmps33
  go_wp2_with fail
  refine (CF.out _).mono ?_
  rintro e W1 ⟨rfl, hb1⟩
  have HB1 := Lib.hid hb1
  have hs1 := hb1.size
  clear hb1 CF
  go_wp2_with fail
  have B1 := Blk.new W1 (entsC fx3).toArray 61
  have hb2 := (HB1.out.alloc hs1 (.cells (entsC fx3).toArray 61))
  refine (show Calls _ _ _ _ _ from order_sure (ord_keyN (how := n3) (way := 1) p6g (by unfold ordT; simp) (by decide) (Or.inl rfl)) rfl (by decide) (rdE_three B1) (HT.out _ hb2) fx3_fits fx_keys).mono ?_
  rintro e W2 ⟨v1, rfl, hO1, hb3⟩
  have hb3 : Below (W1.alloc (.cells (entsC fx3).toArray 61)).heap.size (W1.alloc (.cells (entsC fx3).toArray 61)) W2 := hb3
  have B2 := B1.below hb3 B1.lt
  have hb4 := hb2.trans (hb3.mono hb2.size)
  obtain ⟨A1, cap1, rfl, hA1⟩ : ∃ A cap, v1 = .slice A 3 cap ∧ Rd .i64 W2 A [2, 1, 0] := by
    obtain ⟨A, cap, rfl, _⟩ := hO1.slice
    exact ⟨A, cap, rfl, hO1.rd⟩
  have HB2 := Lib.hid B2
  have HB4 := Lib.hid hb4
  have HA1 := Lib.hid hA1
  have hs4 := hb4.size
  clear B1 hb2 hO1 hb3 B2 hb4 hA1 HB1
  go_wp2_with fail
  refine (show Calls _ _ _ _ _ from order_sure (ord_count (how := n8) (way := -1) p6g (by unfold ordT; simp) (by decide) (Or.inr rfl)) rfl (by decide) (rdE_three HB2.out) (HT.out _ HB4.out) fx3_fits fx_vals).mono ?_
  rintro e W3 ⟨v2, rfl, hO2, hb5⟩
  have hb6 := HB4.out.trans (hb5.mono hs4)
  have hA1 := HA1.out.below hb5
  obtain ⟨A2, cap2, rfl, hA2⟩ : ∃ A cap, v2 = .slice A 3 cap ∧ Rd .i64 W3 A [1, 0, 2] := by
    obtain ⟨A, cap, rfl, _⟩ := hO2.slice
    exact ⟨A, cap, rfl, hO2.rd⟩
  have HB6 := Lib.hid hb6
  have HA2 := Lib.hid hA2
  have HA3 := Lib.hid hA1
  have hs6 := hb6.size
  clear hO2 hb5 hb6 hA2 hA1 HA1 HB4 HB2
  go_wp2_with fail
  have z1 := (own_three (w := W3) (a := 2) (b := 1) (c := 0)).rd
  have b7 := (Below.refl W3.heap.size W3).alloc (Nat.le_refl _) (.cells #[.int .i64 2, .int .i64 1, .int .i64 0] 3)
  refine (show Calls _ _ _ _ _ from CS.out 3 cap1 3 A1 _ [2, 1, 0] rfl (by omega) _ (HA3.out.below b7) z1).mono ?_
  rintro e W4 ⟨rfl, hb8⟩
  have b9 := b7.trans (hb8.mono b7.size)
  have hA4 := HA2.out.below b9
  have hb10 := HB6.out.trans (b9.mono hs6)
  have HA4 := Lib.hid hA4
  have HB10 := Lib.hid hb10
  have hs10 := hb10.size
  clear z1 b7 hb8 b9 hA4 hb10 HA2 HA3 HB6 hs6
  go_wp2_with fail
  have z1 := (own_three (w := W4) (a := 1) (b := 0) (c := 2)).rd
  have b7 := (Below.refl W4.heap.size W4).alloc (Nat.le_refl _) (.cells #[.int .i64 1, .int .i64 0, .int .i64 2] 3)
  refine (show Calls _ _ _ _ _ from CS.out 3 cap2 3 A2 _ [1, 0, 2] rfl (by omega) _ (HA4.out.below b7) z1).mono ?_
  rintro e W5 ⟨rfl, hb8⟩
  have hb9 := HB10.out.trans ((b7.trans (hb8.mono b7.size)).mono hs10)
  have HB11 := Lib.hid hb9
  clear z1 b7 hb8 hb9 HA4 HB10 hs10 CS HT
  go_wp2_with fail
  go_ret
  exact ⟨rfl, HB11.out⟩
end Go.Proofs.YtbbbdcohkfijoaaGreatDoor

namespace Go.Proofs.YtbbbdcohkfijoaaGreatDoor
open Go.RowKit Go.Lib

theorem ents_fit {es : List ItD} (hf : ∀ x ∈ es, x.fine) (hz : ∀ x ∈ es, x.key.size ≤ 140737488351232 ∧ x.str.size ≤ 140737488351232) : Fits (es.map ItD.ent) := fun d hd => by
  obtain ⟨x, hx, rfl⟩ := List.mem_map.1 hd
  obtain ⟨q0, q1⟩ := bounds_u64 (hf x hx).2
  have hz := hz x hx
  exact ⟨by show x.bits.toNat < _; omega, hz.1, hz.2⟩
/-- made, its slice told. -/
theorem made_rd (A : Option Addr) (cap : Nat) (es : List ItD) (w : World) {n : Nat} (hn : es.length = n) (hl : n ≤ 300) (hR : RdI w A es) (hf : ∀ x ∈ es, x.fine) :
    Calls Tryz.prog 34 #[.slice A n cap] w fun e w' => ∃ A' cap', e = .returned (.slice A' n cap') ∧ RdE w' A' (es.map ItD.ent) ∧ Below w.heap.size w w' := by
  subst hn
  refine (made_any A cap es w hl hR hf).mono ?_
  rintro e w' ⟨v, rfl, hO, hb⟩
  rw [show es.length = (es.map ItD.ent).length by rw [List.length_map]] at hO
  obtain ⟨A', cap', rfl, hr, _⟩ := rde_of_own hO
  refine ⟨A', cap', by rw [List.length_map], hr, hb⟩
/-- Order, its slice told. -/
theorem order_rd {how conv : ByteArray} {c : Dat → Dat → Int} {way : Int} (ob : OrderBy how conv c way) {A : Option Addr} {n cap : Nat} {es : List Dat} {W : World} (hn : es.length = n) (hl : n ≤ 1000) (hR : RdE W A es) (hT : PowTab W) (hF : Fits es) :
    Calls Tryz.prog 35 #[.slice A n cap, .string how, .string conv] W fun e w' => ∃ A' cap' out, e = .returned (.tuple #[.slice A' n cap', .int .i64 0]) ∧ InOrder (ltV (fun a b => c (es.getD a d00) (es.getD b d00)) way) n out ∧ Rd .i64 w' A' out ∧ Below W.heap.size W w' := by
  subst hn
  refine (ob.2.2 A cap es W hl hR hT hF).mono ?_
  rintro e w' ⟨v, o, rfl, hi, hO, hb⟩
  obtain ⟨A', cap', rfl, _⟩ := hO.slice
  refine ⟨A', cap', o, by rw [hi.len], hi, hO.rd, hb⟩
theorem in_range {n : Nat} {lt : Nat → Nat → Bool} (h : ∀ a b, a < b → b < n → lt a b = true) : InOrder lt n (List.range n) :=
  ⟨List.pairwise_iff_getElem.2 fun i j hi hj hij => by
    simp only [List.length_range] at hi hj
    rw [List.getElem_range, List.getElem_range]
    exact h i j hij hj, fun a => List.mem_range, List.length_range⟩
theorem out_lt {lt : Nat → Nat → Bool} {n : Nat} {l : List Nat} (h : InOrder lt n l) (k : Nat) (hk : k < l.length) : l[k] < n := (h.all _).1 (List.getElem_mem hk)
end Go.Proofs.YtbbbdcohkfijoaaGreatDoor

namespace Go.Proofs.YtbbbdcohkfijoaaGreatDoor
open Go.RowKit Go.Lib

set_option maxRecDepth 100000 in
set_option maxHeartbeats 4000000 in
theorem sortsKeys_any (A : Option Addr) (cap : Nat) (es : List ItD) (W : World) (hR : RdI W A es) (hf : ∀ x ∈ es, x.fine) (hz : ∀ x ∈ es, x.key.size ≤ 140737488351232 ∧ x.str.size ≤ 140737488351232) (hT : PowTab W) :
    Calls Tryz.prog 9 #[.slice A es.length cap] W fun e w' => e = .returned (.bool true) ∧ Below W.heap.size W w' := by
  have CF := Lib.hid (srtFixed_any W hT)
  have HT := Lib.hid (Lib.tabBelow_of_tabIs hT)
  have HF := Lib.hid (ents_fit hf hz)
  obtain ⟨n, hn⟩ : ∃ n, es.length = n := ⟨_, rfl⟩
  have CM := Lib.hid (fun (w' : World) (hb : Below W.heap.size W w') (hl : n ≤ 300) => made_rd A cap es w' hn hl (hR.below (Nat.le_refl _) hb) hf)
  have HEL : (es.map ItD.ent).length = n := by rw [List.length_map, hn]
  obtain ⟨ds, hds⟩ : ∃ ds, es.map ItD.ent = ds := ⟨_, rfl⟩
  rw [hds] at HF HEL
  have HDS := Lib.hid hds
  have HEL := Lib.hid HEL
  rw [hn]
  clear hR hf hz hT hn hds
  go_enter Tryz.func9, Tryz.ntmps9
  go_wp2_with fail
  refine CF.out.mono ?_
  rintro e W1 ⟨rfl, hb1⟩
  have HB1 := Lib.hid hb1
  have hs1 := hb1.size
  clear hb1 CF
  by_cases hl : n ≤ 300
  · have CM1 := Lib.hid (CM.out W1 HB1.out hl)
    clear CM
    go_wp2_with fail
    refine CM1.out.mono ?_
    rintro e W2 ⟨A2, cap2, rfl, hr2, hb2⟩
    rw [HDS.out] at hr2
    have hb2 := HB1.out.trans (hb2.mono hs1)
    have HR2 := Lib.hid hr2
    have HB2 := Lib.hid hb2
    have hs2 := hb2.size
    clear hr2 hb2 CM1 HB1
    go_wp2_with fail
    refine (show Calls _ _ _ _ _ from order_rd (ord_key (how := n1) (way := 1) _ (by unfold ordT; simp) (by decide) (Or.inl rfl)) HEL.out (by omega) HR2.out (HT.out _ HB2.out) HF.out).mono ?_
    rintro e W3 ⟨A3, cap3, o1, rfl, hi3, hr3, hb3⟩
    have hr2 := HR2.out.below (Nat.le_refl _) hb3
    have hb3 := HB2.out.trans (hb3.mono hs2)
    have HI3 := Lib.hid hi3
    have HR3 := Lib.hid hr3
    have HR2' := Lib.hid hr2
    have HB3 := Lib.hid hb3
    have hs3 := hb3.size
    clear hr2 hb3 hi3 hr3 HR2 HB2
    go_wp2_with fail
    refine (show Calls _ _ _ _ _ from order_rd (ord_unsorted _) HEL.out (by omega) HR2'.out (HT.out _ HB3.out) HF.out).mono ?_
    rintro e W4 ⟨A4, cap4, o2, rfl, hi4, hr4, hb4⟩
    have e2 := hi4.uniq (CmpW.zero.ord (Or.inl rfl)) (in_range fun a b hab _ => by rw [ltV_is CmpW.zero (Or.inl rfl), if_pos rfl]; exact decide_eq_true hab)
    subst e2
    have hr2 := HR2'.out.below (Nat.le_refl _) hb4
    have hr3 := HR3.out.below hb4
    have hb4 := HB3.out.trans (hb4.mono hs3)
    have HR4 := Lib.hid hr4
    have HR3' := Lib.hid hr3
    have HR2 := Lib.hid hr2
    have HB4 := Lib.hid hb4
    have hs4 := hb4.size
    clear hr2 hr3 hb4 hi4 hr4 HR2' HR3 HB3 HT
    go_wp2_with fail
    go_loopw [48] (fun kv wr => ∃ k : Nat, kv = .int .i64 (k : Int) ∧ k ≤ n ∧ Below W4.heap.size W4 wr) (fun kv _ => n - (RowKit.intOf kv).toNat)
    case atStart => exact ⟨0, rfl, Nat.zero_le _, Below.refl _ _⟩
    case round =>
      obtain ⟨k, rfl, hk, hB⟩ := hrel
      by_cases hlt : k < n
      · have hne : o1 ≠ [] := fun e => by
          have := HI3.out.len
          rw [e] at this
          simp at this
          omega
        obtain ⟨b4, q4, e4, c4⟩ := HR4.out.below hB k (by simpa using hlt)
        rw [List.getElem_range] at c4
        obtain ⟨b3, q3, e3, hc3⟩ := (HR3'.out.below hB).at_ hne
        have hl3 := HI3.out.len
        have c3 := hc3 k (by omega)
        have hxn := out_lt HI3.out k (by omega)
        obtain ⟨x, hx⟩ : ∃ x : Nat, o1[k]'(by omega) = x := ⟨_, rfl⟩
        rw [hx] at c3 hxn
        subst e3
        subst e4
        have HBW := Lib.hid hB
        by_cases hk0 : k = 0
        · have hd : decide ((0 : Int) < (k : Int)) = false := decide_eq_false (by omega)
          have hd2 : decide (0 < k) = false := decide_eq_false (by omega)
          have hge : decide ((n : Int) ≤ (x : Int)) = false := decide_eq_false (by omega)
          have hge2 : decide (n ≤ x) = false := decide_eq_false (by omega)
          have hlt0 : decide ((x : Int) < 0) = false := decide_eq_false (by omega)
          have hxn' : (x : Int) < (n : Int) := by omega
          clear hx hB hc3 hl3 hne hk0
          go_wp2_with fail
          go_quiet (fail)
          all_goals
            clear c3 c4
            go_wp2_with fail
            refine ⟨⟨k + 1, rfl, by omega, ?_⟩, ?_⟩
            · exact ⟨HBW.out.os, HBW.out.tape, HBW.out.output, HBW.out.size, HBW.out.block⟩
            · simp [RowKit.intOf]
              omega
        · obtain ⟨j, hj⟩ : ∃ j, k = j + 1 := ⟨k - 1, by omega⟩
          have hk1 : (k : Int) - 1 = (j : Int) := by omega
          have hk2 : IntKind.i64.wrap ((k : Int) - 1) = (k : Int) - 1 := IntWalk.i64_in _ (by omega)
          have hq1 : (0 : Int) ≤ (k : Int) - 1 := by omega
          have hq2 : (k : Int) - 1 < (n : Int) := by omega
          have hq3 : ((k : Int) - 1).toNat = j := by omega
          have hk3 : (0 : Int) < (k : Int) := by omega
          have hk4 : 0 < k := by omega
          have hd : decide ((0 : Int) < (k : Int)) = true := decide_eq_true hk3
          have hjn : j < n := by omega
          have c5 := hc3 j (by omega)
          have hyn := out_lt HI3.out j (by omega)
          have hr := List.pairwise_iff_getElem.1 HI3.out.rises j k (by omega) (by omega) (by omega)
          obtain ⟨y, hy⟩ : ∃ y : Nat, o1[j]'(by omega) = y := ⟨_, rfl⟩
          rw [hy] at c5 hyn hr
          rw [hx] at hr
          rw [ltV_is (CmpW.bytes fun a => (ds.getD a d00).key.data.toList) (Or.inl rfl)] at hr
          have hel := HEL.out
          obtain ⟨b2, q2, e2, hc2⟩ := HR2.out.below (Nat.le_refl _) hB y (by omega)
          obtain ⟨b2', q2', e2', hc2'⟩ := HR2.out.below (Nat.le_refl _) hB x (by omega)
          subst e2
          injection e2' with e2'
          injection e2' with e21 e22 _
          subst e21
          subst e22
          have k1' := hc2 0 (by omega)
          have k2' := hc2' 0 (by omega)
          rw [List.getD_eq_getElem?_getD, List.getElem?_eq_getElem (by omega), List.getD_eq_getElem?_getD, List.getElem?_eq_getElem (by omega)] at hr
          obtain ⟨ky, hky⟩ : ∃ z : ByteArray, (ds[y]'(by omega)).key = z := ⟨_, rfl⟩
          obtain ⟨kx, hkx⟩ : ∃ z : ByteArray, (ds[x]'(by omega)).key = z := ⟨_, rfl⟩
          have h3 := cmp_three ky.data.toList kx.data.toList
          have k1 : wr.cell? ⟨b2, q2 + y * 5, none⟩ = some (.string ky) := by rw [← hky]; exact k1'
          have k2 : wr.cell? ⟨b2, q2 + x * 5, none⟩ = some (.string kx) := by rw [← hkx]; exact k2'
          simp only [Option.getD_some, hky, hkx] at hr
          rw [← Lib.toList_data, ← Lib.toList_data] at h3 hr
          have hb : (Op.bytesLess ky.toList kx.toList = true ∧ (ky.toList == kx.toList) = false) ∨ (Op.bytesLess ky.toList kx.toList = false ∧ (ky.toList == kx.toList) = true) := by
            rcases h3 with ⟨g1, g2, g3⟩ | ⟨g1, g2, g3⟩ | ⟨g1, g2, g3⟩
            · exact Or.inl ⟨g1, g2⟩
            · exact Or.inr ⟨g1, g2⟩
            · rw [g3] at hr
              simp at hr
          have hge : decide ((n : Int) ≤ (x : Int)) = false := decide_eq_false (by omega)
          have hge2 : decide (n ≤ x) = false := decide_eq_false (by omega)
          have hlt0 : decide ((x : Int) < 0) = false := decide_eq_false (by omega)
          have hq4 : (1 : Int) ≤ (k : Int) := by omega
          have hq5 : (k : Int) ≤ (n : Int) := by omega
          have hq6 : 1 ≤ k := by omega
          have hxn' : (x : Int) < (n : Int) := by omega
          have hyn' : (y : Int) < (n : Int) := by omega
          have hjn' : (j : Int) < (n : Int) := by omega
          clear k1' k2' hx hB hc3 hl3 hne hr hy hel hc2 hc2' hky hkx h3 hj hk0 hk1
          rcases hb with ⟨g1, g2⟩ | ⟨g1, g2⟩
          all_goals
            go_wp2_with fail
            go_quiet (fail)
            all_goals
              clear c3 c4 c5 k1 k2
              go_wp2_with fail
              refine ⟨⟨k + 1, rfl, by omega, ?_⟩, ?_⟩
              · exact ⟨HBW.out.os, HBW.out.tape, HBW.out.output, HBW.out.size, HBW.out.block⟩
              · simp [RowKit.intOf]
                omega
      · have hkn : k = n := by omega
        subst hkn
        go_wp2_with fail
        go_ret
        exact ⟨rfl, HB4.out.trans (hB.mono hs4)⟩
  · clear CM HF HDS HEL HT
    have hl' : 300 < n := by omega
    go_wp2_with fail
    go_ret
    exact ⟨rfl, HB1.out⟩
end Go.Proofs.YtbbbdcohkfijoaaGreatDoor

namespace Go.Proofs.YtbbbdcohkfijoaaGreatDoor
open Go.RowKit Go.Lib

/-- Keys that differ: one way is the other turned. -/
theorem turned_order {c : Dat → Dat → Int} {ds : List Dat} {n : Nat} {o1 o2 : List Nat} (hc : ∀ d : Nat → Dat, CmpW fun a b => c (d a) (d b)) (h0 : ∀ d e, c d e = 0 → d.key = e.key)
    (_hn : ds.length = n) (hd : ∀ i j (_ : i < n) (_ : j < i), (ds.getD i d00).key ≠ (ds.getD j d00).key)
    (h1 : InOrder (ltV (fun a b => c (ds.getD a d00) (ds.getD b d00)) 1) n o1) (h2 : InOrder (ltV (fun a b => c (ds.getD a d00) (ds.getD b d00)) (-1)) n o2) : o2 = o1.reverse := by
  have hw := hc fun a => ds.getD a d00
  refine h2.uniq (hw.ord (Or.inr rfl)) ⟨?_, fun a => by rw [List.mem_reverse]; exact h1.all a, by rw [List.length_reverse]; exact h1.len⟩
  rw [List.pairwise_reverse]
  refine h1.rises.imp_of_mem (fun {a b} ha hb hab => ?_)
  have han := (h1.all a).1 ha
  have hbn := (h1.all b).1 hb
  rw [ltV_is hw (Or.inl rfl)] at hab
  rw [ltV_is hw (Or.inr rfl)]
  have hsw := hw.sw a b
  by_cases hz : c (ds.getD a d00) (ds.getD b d00) = 0
  · rw [if_pos hz] at hab
    have hlt := of_decide_eq_true hab
    exact absurd (h0 _ _ hz).symm (hd b a hbn hlt)
  · rw [if_neg hz] at hab
    have hlt := of_decide_eq_true hab
    have hsw' : c (ds.getD b d00) (ds.getD a d00) = -c (ds.getD a d00) (ds.getD b d00) := hsw
    rw [if_neg (by omega)]
    exact decide_eq_true (by omega)
theorem key_zero (d e : Dat) (h : Lib.compareBytes d.key.data.toList e.key.data.toList = 0) : d.key = e.key := by
  have := (cmp_facts _ _).2.1.1 h
  exact ByteArray.ext (Array.toList_inj.1 this)
theorem keyN_zero (d e : Dat) (h : cKeyN d e = 0) : d.key = e.key := by
  unfold cKeyN kcv at h
  split at h
  · exact key_zero d e h
  · exact absurd h ‹_›
set_option maxRecDepth 100000 in
set_option maxHeartbeats 4000000 in
theorem sortsTurned_core (b : Bool) {hA hD : ByteArray} {c : Dat → Dat → Int} (oa : OrderBy hA ⟨#[]⟩ c 1) (od : OrderBy hD ⟨#[]⟩ c (-1)) (h0 : ∀ d e, c d e = 0 → d.key = e.key)
    (eA : ((if b = true then (⟨#[64, 105, 110, 100, 95, 110, 117, 109]⟩ : ByteArray) else ⟨#[64, 105, 110, 100, 95, 115, 116, 114]⟩) ++ (⟨#[95, 97, 115, 99]⟩ : ByteArray)) = hA) (eD : ((if b = true then (⟨#[64, 105, 110, 100, 95, 110, 117, 109]⟩ : ByteArray) else ⟨#[64, 105, 110, 100, 95, 115, 116, 114]⟩) ++ (⟨#[95, 100, 101, 115, 99]⟩ : ByteArray)) = hD)
    (A : Option Addr) (cap : Nat) (es : List ItD) (W : World) (hR : RdI W A es) (hf : ∀ x ∈ es, x.fine) (hz : ∀ x ∈ es, x.key.size ≤ 140737488351232 ∧ x.str.size ≤ 140737488351232) (hT : PowTab W) :
    Calls Tryz.prog 8 #[.slice A es.length cap, .bool b] W fun e w' => e = .returned (.bool true) ∧ Below W.heap.size W w' := by
  cases b
  all_goals
    simp only [if_true, if_false, Bool.false_eq_true] at eA eD
    have CF := Lib.hid (srtFixed_any W hT)
    have HT := Lib.hid (Lib.tabBelow_of_tabIs hT)
    have HF := Lib.hid (ents_fit hf hz)
    obtain ⟨n, hn⟩ : ∃ n, es.length = n := ⟨_, rfl⟩
    have CM := Lib.hid (fun (w' : World) (hb : Below W.heap.size W w') (hl : n ≤ 300) => made_rd A cap es w' hn hl (hR.below (Nat.le_refl _) hb) hf)
    have HEL : (es.map ItD.ent).length = n := by rw [List.length_map, hn]
    obtain ⟨ds, hds⟩ : ∃ ds, es.map ItD.ent = ds := ⟨_, rfl⟩
    rw [hds] at HF HEL
    have HDS := Lib.hid hds
    have HEL := Lib.hid HEL
    have OA := Lib.hid oa
    have OD := Lib.hid od
    have H0 := Lib.hid h0
    have EA := Lib.hid eA
    have ED := Lib.hid eD
    rw [hn]
    clear hR hf hz hT hn hds oa od h0 eA eD
    go_enter Tryz.func8, Tryz.ntmps8
    go_wp2_with fail
    refine CF.out.mono ?_
    rintro e W1 ⟨rfl, hb1⟩
    have HB1 := Lib.hid hb1
    have hs1 := hb1.size
    clear hb1 CF
    by_cases hl : n ≤ 300
    · have CM1 := Lib.hid (CM.out W1 HB1.out hl)
      clear CM
      go_wp2_with fail
      refine CM1.out.mono ?_
      rintro e W2 ⟨A2, cap2, rfl, hr2, hb2⟩
      rw [HDS.out] at hr2
      have hb2 := HB1.out.trans (hb2.mono hs1)
      have HR2 := Lib.hid hr2
      have HB2 := Lib.hid hb2
      have hs2 := hb2.size
      clear hr2 hb2 CM1 HB1
      go_wp2_with fail
      go_loopw [23] (fun kv wr => ∃ k : Nat, kv = .int .i64 (k : Int) ∧ k ≤ n ∧ Below W2.heap.size W2 wr ∧ ∀ i j (_ : i < k) (_ : j < i), (ds.getD i d00).key ≠ (ds.getD j d00).key) (fun kv _ => n - (RowKit.intOf kv).toNat)
      case atStart => exact ⟨0, rfl, Nat.zero_le _, Below.refl _ _, fun i j hi _ => absurd hi (Nat.not_lt_zero _)⟩
      case round =>
        obtain ⟨k, rfl, hk, hB, hD⟩ := hrel
        have HBW := Lib.hid hB
        have HD := Lib.hid hD
        clear hB hD
        by_cases hlt : k < n
        · go_wp2_with fail
          go_loopw [7] (fun jv wi => ∃ j : Nat, jv = .int .i64 (j : Int) ∧ j ≤ k ∧ Below W2.heap.size W2 wi ∧ ∀ i (_ : i < j), (ds.getD k d00).key ≠ (ds.getD i d00).key) (fun jv _ => k - (RowKit.intOf jv).toNat)
          case atStart => exact ⟨0, rfl, Nat.zero_le _, HBW.out, fun i hi => absurd hi (Nat.not_lt_zero _)⟩
          case round =>
            obtain ⟨j, rfl, hj, hB, hI⟩ := hrel
            have HBI := Lib.hid hB
            have HI := Lib.hid hI
            clear hI
            by_cases hjk : j < k
            · have hel := HEL.out
              obtain ⟨b2, q2, e2, hc2⟩ := HR2.out.below (Nat.le_refl _) hB k (by omega)
              obtain ⟨b2', q2', e2', hc2'⟩ := HR2.out.below (Nat.le_refl _) hB j (by omega)
              subst e2
              injection e2' with e2'
              injection e2' with e21 e22 _
              subst e21
              subst e22
              have k1' := hc2 0 (by omega)
              have k2' := hc2' 0 (by omega)
              obtain ⟨ky, hky⟩ : ∃ z : ByteArray, (ds.getD k d00).key = z := ⟨_, rfl⟩
              obtain ⟨kx, hkx⟩ : ∃ z : ByteArray, (ds.getD j d00).key = z := ⟨_, rfl⟩
              have k1 : wr.cell? ⟨b2, q2 + k * 5, none⟩ = some (.string ky) := by
                rw [List.getD_eq_getElem?_getD, List.getElem?_eq_getElem (by omega)] at hky
                rw [← hky]; exact k1'
              have k2 : wr.cell? ⟨b2, q2 + j * 5, none⟩ = some (.string kx) := by
                rw [List.getD_eq_getElem?_getD, List.getElem?_eq_getElem (by omega)] at hkx
                rw [← hkx]; exact k2'
              clear k1' k2' hc2 hc2' hB hel
              have HKY := Lib.hid hky
              have HKX := Lib.hid hkx
              clear hky hkx
              by_cases he : ky = kx
              · subst he
                have hbe : (ky.toList == ky.toList) = true := beq_self_eq_true _
                go_wp2_with fail
                go_quiet (fail)
                clear k1 k2
                go_wp2_with fail
                go_ret
                have hb2 := HB2.out.trans (HBI.out.mono hs2)
                exact ⟨rfl, hb2.os, hb2.tape, hb2.output, hb2.size, hb2.block⟩
              · have hbe : (ky.toList == kx.toList) = false := by
                  rw [Lib.toList_data, Lib.toList_data]
                  exact beq_eq_false_iff_ne.2 (fun e => he (ByteArray.ext (Array.toList_inj.1 e)))
                have HE := Lib.hid he
                clear he
                go_wp2_with fail
                go_quiet (fail)
                clear k1 k2 hbe
                go_wp2_with fail
                refine ⟨⟨j + 1, rfl, by omega, ⟨HBI.out.os, HBI.out.tape, HBI.out.output, HBI.out.size, HBI.out.block⟩, fun i hi => ?_⟩, ?_⟩
                · by_cases hij : i < j
                  · exact HI.out i hij
                  · have hi2 : i = j := by omega
                    subst hi2
                    rw [HKY.out, HKX.out]
                    exact HE.out
                · simp [RowKit.intOf]
                  omega
            · have hjk2 : j = k := by omega
              subst hjk2
              go_wp2_with fail
              refine ⟨⟨j + 1, rfl, by omega, HBI.out, fun i i' hi hi' => ?_⟩, ?_⟩
              · by_cases hij : i < j
                · exact HD.out i i' hij hi'
                · have hi2 : i = j := by omega
                  subst hi2
                  exact HI.out i' hi'
              · simp [RowKit.intOf]
                omega
        · have hkn : k = n := by omega
          subst hkn
          have HD := Lib.hid (fun i j (hi : i < k) (hj : j < i) => HD.out i j hi hj)
          have hb3 := HB2.out.trans (HBW.out.mono hs2)
          have HB3 := Lib.hid hb3
          have HR3 := Lib.hid (HR2.out.below (Nat.le_refl _) HBW.out)
          have hs3 := hb3.size
          clear hb3 HB2 HR2 HBW hs2
          go_wp2_with fail
          rw [EA.out]
          refine (show Calls _ _ _ _ _ from order_rd OA.out HEL.out (by omega) HR3.out (HT.out _ HB3.out) HF.out).mono ?_
          rintro e W4 ⟨A4, cap4, o1, rfl, hi4, hr4, hb4⟩
          have HI1 := Lib.hid hi4
          have HRo := Lib.hid hr4
          have HR4 := Lib.hid (HR3.out.below (Nat.le_refl _) hb4)
          have hb4 := HB3.out.trans (hb4.mono hs3)
          have HB4 := Lib.hid hb4
          have hs4 := hb4.size
          clear hi4 hr4 hb4 HR3 HB3
          go_wp2_with fail
          rw [ED.out]
          refine (show Calls _ _ _ _ _ from order_rd OD.out HEL.out (by omega) HR4.out (HT.out _ HB4.out) HF.out).mono ?_
          rintro e W5 ⟨A5, cap5, o2, rfl, hi5, hr5, hb5⟩
          have e2 := turned_order OA.out.2.1 H0.out HEL.out (fun i j hi hj => HD.out i j hi hj) HI1.out hi5
          subst e2
          have HR1 := Lib.hid (HRo.out.below hb5)
          have HR5 := Lib.hid hr5
          have hb5 := HB4.out.trans (hb5.mono hs4)
          have HB5 := Lib.hid hb5
          have hs5 := hb5.size
          have HLN := Lib.hid HI1.out.len
          clear hi5 hr5 hb5 HR4 HB4 HRo HT HD EA ED OA OD H0 HF HDS
          go_wp2_with fail
          go_loopw [80] (fun kv wr => ∃ i : Nat, kv = .int .i64 (i : Int) ∧ i ≤ k ∧ Below W5.heap.size W5 wr) (fun kv _ => k - (RowKit.intOf kv).toNat)
          case atStart => exact ⟨0, rfl, Nat.zero_le _, Below.refl _ _⟩
          case round =>
            obtain ⟨i, rfl, hi, hB⟩ := hrel
            by_cases hik : i < k
            · have hln := HLN.out
              have hne : o1 ≠ [] := fun e => by
                rw [e] at hln
                simp at hln
                omega
              obtain ⟨b1, q1, e1, hc1⟩ := (HR1.out.below hB).at_ hne
              obtain ⟨b5, q5, e5, hc5⟩ := (HR5.out.below hB).at_ (by simpa using hne)
              have c1 := hc1 i (by omega)
              have hi2 : k - 1 - i < o1.reverse.length := by rw [List.length_reverse]; omega
              have c5 := hc5 (k - 1 - i) hi2
              rw [List.getElem_reverse] at c5
              obtain ⟨x, hx⟩ : ∃ x : Nat, o1[i]'(by omega) = x := ⟨_, rfl⟩
              have hx2 : o1[o1.length - 1 - (k - 1 - i)]'(by omega) = x := by
                rw [← hx]
                congr 1
                omega
              rw [hx2] at c5
              rw [hx] at c1
              obtain ⟨j, hj⟩ : ∃ j, k - 1 - i = j := ⟨_, rfl⟩
              rw [hj] at c5
              subst e1
              subst e5
              have HBW := Lib.hid hB
              have w1 : IntKind.i64.wrap ((k : Int) - 1) = (k : Int) - 1 := IntWalk.i64_in _ (by omega)
              have w2 : IntKind.i64.wrap ((k : Int) - 1 - (i : Int)) = (j : Int) := (IntWalk.i64_in _ (by omega)).trans (by omega)
              have w3 : (k : Int) - 1 - (i : Int) = (j : Int) := by omega
              have hjk : j < k := by omega
              have hjk' : (j : Int) < (k : Int) := by omega
              clear hx hx2 hj hi2 hc1 hc5 hne hln hB
              go_wp2_with fail
              go_quiet (fail)
              clear c1 c5 w1 w2 w3
              go_wp2_with fail
              refine ⟨⟨i + 1, rfl, by omega, ⟨HBW.out.os, HBW.out.tape, HBW.out.output, HBW.out.size, HBW.out.block⟩⟩, ?_⟩
              simp [RowKit.intOf]
              omega
            · have hik2 : i = k := by omega
              subst hik2
              go_wp2_with fail
              go_ret
              exact ⟨rfl, HB5.out.trans (hB.mono hs5)⟩
    · clear CM HF HDS HEL HT
      have hl' : 300 < n := by omega
      go_wp2_with fail
      go_ret
      exact ⟨rfl, HB1.out⟩
theorem sortsTurned_any (A : Option Addr) (cap : Nat) (es : List ItD) (b : Bool) (W : World) (hR : RdI W A es) (hf : ∀ x ∈ es, x.fine) (hz : ∀ x ∈ es, x.key.size ≤ 140737488351232 ∧ x.str.size ≤ 140737488351232) (hT : PowTab W) :
    Calls Tryz.prog 8 #[.slice A es.length cap, .bool b] W fun e w' => e = .returned (.bool true) ∧ Below W.heap.size W w' := by
  cases b with
  | false => exact sortsTurned_core false (ord_key (how := n1) (way := 1) _ (by unfold ordT; simp) (by decide) (Or.inl rfl)) (ord_key (how := n2) (way := -1) _ (by unfold ordT; simp) (by decide) (Or.inr rfl)) key_zero (by rfl) (by rfl) A cap es W hR hf hz hT
  | true => exact sortsTurned_core true (ord_keyN (how := n3) (way := 1) _ (by unfold ordT; simp) (by decide) (Or.inl rfl)) (ord_keyN (how := n4) (way := -1) _ (by unfold ordT; simp) (by decide) (Or.inr rfl)) keyN_zero (by rfl) (by rfl) A cap es W hR hf hz hT
end Go.Proofs.YtbbbdcohkfijoaaGreatDoor
