/- Several texts in one (Contracts of layer 10: the kids of a node, told from the last to the first; Contracts of layer 10: 'lead' of an empty node, of a leaf, of a repeat, of a choice; Contracts of layer 10: 'lead' of a choice; Contracts of layer 10: 'lead' of a row; Contracts of layer 10: 'lead', of any node; Contracts of layer 9: when two trees are the same; Contracts of layer 9: Valid; Contracts of layer 10: Compile). -/
import Derived.RangeFuncNested
import Derived.Stop.RegionWithIn
import Derived.Maps.OwnIn
import Derived.Test.YtdfacbcenogplaaDoorPk1
import Derived.Test.YtdfacbcenogplaaDoorPk5
import Derived.Test.YtdfacbcenogplaaDoorPk8
namespace Go.Proofs.YtdfacbcenogplaaDoor
open Go.RowKit Go.Lib Go.Maps

/-- What a round tells: a number, and a node's seven values. -/
def encK {m : Nat} (kv : Fin m → Array Value) (p : Nat × Fin m) : Array Value := #[.int .i64 (p.1 : Int), .agg (kv p.2)]
def plK {m : Nat} (xs : List (Nat × Fin m)) : List Nat := xs.map fun p => p.2.val
def lastK (m k : Nat) : List Nat := (List.range k).map fun j => m - 1 - j
theorem lastK_succ (m k : Nat) : lastK m (k + 1) = lastK m k ++ [m - 1 - k] := by unfold lastK; rw [List.range_succ, List.map_append]; rfl
theorem plK_snoc {m : Nat} (xs : List (Nat × Fin m)) (p : Nat × Fin m) : plK (xs ++ [p]) = plK xs ++ [p.2.val] := by unfold plK; rw [List.map_append]; rfl
theorem plK_len {m k : Nat} {xs : List (Nat × Fin m)} (h : plK xs = lastK m k) : xs.length = k := by
  have := congrArg List.length h
  unfold plK lastK at this
  rwa [List.length_map, List.length_map, List.length_range] at this
/-- What a walk backwards leans on. -/
def KpB (B : Nat) (A : Option Addr) (m : Nat) (W W' : World) : Prop := W'.heap[B]? = W.heap[B]? ∧ ∀ g, A = some ⟨g, 0, none⟩ → 0 < m → W'.heap[g]? = W.heap[g]?
theorem KpB.trans {B : Nat} {A : Option Addr} {m : Nat} {W W1 W2 : World} (h : KpB B A m W W1) (k : KpB B A m W1 W2) : KpB B A m W W2 := ⟨k.1.trans h.1, fun g e hm => (k.2 g e hm).trans (h.2 g e hm)⟩
theorem back_new (A : Option Addr) (m cap : Nat) (W : World) : Calls Tryd.prog 82 #[.slice A m cap] W fun e w' => e = .returned (.func (.func 108) #[] #[.pointer (some ⟨W.heap.size, 0, none⟩)]) ∧ W.alloc (.cells #[.slice A m cap] 56) = w' := by
  go_enter Tryd.func82, Tryd.ntmps82
  go_wp2_with fail
  go_ret
  exact ⟨rfl, rfl⟩
/-- Where the kids lie, in values. -/
def KidAt (w : World) (A : Option Addr) (i : Nat) (vs : Array Value) : Prop :=
  ∃ (g : Nat) (kind code : Int) (neg : Bool) (A3 : Option Addr) (n3 c3 : Nat) (lo hi : Int) (A2 : Option Addr) (n2 c2 : Nat), A = some ⟨g, 0, none⟩ ∧ vs = #[.int .i64 kind, .int .i64 code, .bool neg, .slice A3 n3 c3, .int .i64 lo, .int .i64 hi, .slice A2 n2 c2] ∧
    (w.cell? ⟨g, i * 7, none⟩ = some (.int .i64 kind) ∧ w.cell? ⟨g, i * 7 + 1, none⟩ = some (.int .i64 code) ∧ w.cell? ⟨g, i * 7 + 2, none⟩ = some (.bool neg) ∧ w.cell? ⟨g, i * 7 + 3, none⟩ = some (.slice A3 n3 c3) ∧ w.cell? ⟨g, i * 7 + 4, none⟩ = some (.int .i64 lo) ∧ w.cell? ⟨g, i * 7 + 5, none⟩ = some (.int .i64 hi) ∧ w.cell? ⟨g, i * 7 + 6, none⟩ = some (.slice A2 n2 c2))
theorem KidAt.kept {w w' : World} {A : Option Addr} {i : Nat} {vs : Array Value} (h : KidAt w A i vs) (hk : ∀ g, A = some ⟨g, 0, none⟩ → w'.heap[g]? = w.heap[g]?) : KidAt w' A i vs := by
  obtain ⟨g, kind, code, neg, A3, n3, c3, lo, hi, A2, n2, c2, hA, e, h0, h1, h2, h3, h4, h5, h6⟩ := h
  have e2 : ∀ j, w'.cell? ⟨g, j, none⟩ = w.cell? ⟨g, j, none⟩ := fun j => World.cell?_of_block (a := ⟨g, j, none⟩) (hk g hA)
  exact ⟨g, kind, code, neg, A3, n3, c3, lo, hi, A2, n2, c2, hA, e, (e2 _).trans h0, (e2 _).trans h1, (e2 _).trans h2, (e2 _).trans h3, (e2 _).trans h4, (e2 _).trans h5, (e2 _).trans h6⟩
set_option maxRecDepth 100000 in
set_option maxHeartbeats 2000000 in
theorem back_stops (n : Nat) (hn : 1 ≤ n) (B : Nat) (A : Option Addr) (m cap : Nat) (kv : Fin m → Array Value) (hl : m ≤ 100000) (w : World) (h1 : Blk w B #[.slice A m cap] 56) (hlt : ∀ g, A = some ⟨g, 0, none⟩ → 0 < m → g < w.heap.size) (hF : ∀ j : Fin m, KidAt w A j (kv j)) :
    SeqStopsK Fence.wide n Tryd.prog 108 #[.pointer (some ⟨B, 0, none⟩)] (encK kv) (KpB B A m) (fun xs => plK xs = lastK m m) (fun _ => True) m w := fun l J Jx W hW hJ hJx hY h0 => by
  have HB1 := Lib.hid (h1.below hW h1.lt)
  have HF := Lib.hid (fun (j : Fin m) => (hF j).kept (w' := W) fun g e => hW.block g (hlt g e (by have := j.2; omega)))
  have HJ := Lib.hid h0
  have HY := Lib.hid hY
  have HJA := Lib.hid hJ
  have c1 : W.cell? ⟨B, 0, none⟩ = some (.slice A m cap) := HB1.out.cell 0
  have hw1 : IntKind.i64.wrap ((m : Int) - 1) = (m : Int) - 1 := by simp [IntKind.wrap, IntKind.bits, IntKind.signed]; omega
  clear h1 hW hJ hJx hY h0 hF hlt
  refine callsIn_of_wp Tryd.func108 rfl trivial ?_ rfl
  simp only [Tryd.ntmps108, List.size_toArray, List.length_cons, List.length_nil, Nat.reduceAdd, Nat.reduceSub, Array.replicate_succ, Array.replicate_zero, List.push_toArray, List.append_toArray, List.nil_append, List.cons_append]
  gi_wp2
  clear c1
  gi_loopw [3] (fun v wr => ∃ (k : Nat) (pre : List (Nat × Fin m)), v = .int .i64 ((m : Int) - 1 - (k : Int)) ∧ k ≤ m ∧ plK pre = lastK m k ∧ J pre wr ∧ KpB B A m W wr) (fun v _ => (RowKit.intOf v + 1).toNat)
  case atStart => exact ⟨0, [], by simp, Nat.zero_le _, rfl, HJ.out, ⟨rfl, fun _ _ _ => rfl⟩⟩
  case round =>
    obtain ⟨k, pre, rfl, hk, hpre, hJk, hg⟩ := hrel
    have HP := Lib.hid hpre
    have HJk := Lib.hid hJk
    have Hg := Lib.hid hg
    by_cases hlt : k < m
    · obtain ⟨i, hi⟩ : ∃ i : Nat, m - 1 - k = i := ⟨_, rfl⟩
      have him : i < m := by omega
      obtain ⟨kf, hkf⟩ : ∃ kf : Fin m, kf.val = i := ⟨⟨i, him⟩, rfl⟩
      have hiz : (m : Int) - 1 - (k : Int) = (i : Int) := by omega
      have c1 : wr.cell? ⟨B, 0, none⟩ = some (.slice A m cap) := (World.cell?_of_block (a := ⟨B, 0, none⟩) hg.1).trans (HB1.out.cell 0)
      obtain ⟨g, kind, code, neg, A3, n3, c3, lo, hi', A2, n2, c2, hA, hv, q0, q1, q2, q3, q4, q5, q6⟩ := (HF.out kf).kept (fun g e => hg.2 g e (by omega))
      rw [hkf] at q0 q1 q2 q3 q4 q5 q6
      subst hA
      obtain ⟨fn, tmps, assign, body, hy2, hR⟩ := HY.out pre (i, kf) _ hJk (by rw [plK_len hpre]; exact hlt)
      simp only [encK, hv] at hy2
      have HKF := Lib.hid (And.intro hkf hi)
      have hi0 : ¬ (i : Int) < 0 := by omega
      have hi1 : (i : Int) < (m : Int) := by omega
      obtain ⟨z, hz⟩ : ∃ z : Int, (i : Int) - 1 = z := ⟨_, rfl⟩
      have hwz : IntKind.i64.wrap ((i : Int) - 1) = z := by rw [← hz]; simp [IntKind.wrap, IntKind.bits, IntKind.signed]; omega
      have HZ := Lib.hid hz
      rw [hiz]
      clear hz hpre hJk hg hkf hi hiz hv
      gi_wp2
      refine hR.mono ?_
      rintro e' W3 (⟨rfl, hJ3, hk3⟩ | ⟨rfl, hJx3⟩)
      · gi_wp2
        go_roundw
        case rel => exact ⟨k + 1, _, by have := HZ.out; have := HKF.out.2; congr 1; omega, by omega, by rw [plK_snoc, HP.out, lastK_succ, HKF.out.1, HKF.out.2], hJ3, Hg.out.trans hk3⟩
        case measure =>
          have := HZ.out
          simp [RowKit.intOf]
          omega
      · gi_wp2
        refine bodyPost_ret (results_none rfl _ _ _) rfl ?_
        exact ⟨⟨_, rfl⟩, .inr ⟨_, trivial, hJx3⟩⟩
    · obtain rfl : k = m := by omega
      have hiz : (k : Int) - 1 - (k : Int) = -1 := by omega
      rw [hiz]
      clear hiz
      gi_wp2
      go_end0
      exact ⟨⟨_, rfl⟩, .inl ⟨_, HP.out, HJk.out⟩⟩
end Go.Proofs.YtdfacbcenogplaaDoor

namespace Go.Proofs.YtdfacbcenogplaaDoor
open Go.RowKit Go.Lib Go.Maps

theorem Grow.tight {w : World} {D : Nat → Prop} {B P : Nat} {fold bytes : Bool} {fv : Int} {A : Option Addr} {n c : Nat} {C : List Ins} (h : Grow w D B P fold bytes fv A n c C) : Grow w (fun g => D g ∧ g < w.heap.size) B P fold bytes fv A n c C := by
  obtain ⟨L, hL, hO, hI⟩ := h.row
  refine ⟨h.blk, h.up, L, hL, hO, fun i x hx => ?_⟩
  obtain ⟨vs, h1, sv, wa, wc, e, hs, hn, hw⟩ := hI i x hx
  refine ⟨vs, h1, sv, wa, wc, e, hs, hn, fun j m hj => ?_⟩
  obtain ⟨q, cs, e', hD, hb, hc⟩ := hw j m hj
  exact ⟨q, cs, e', ⟨hD, hb.lt⟩, hb, hc⟩
/-- What lies there when 'lead' has begun. -/
structure LPre (w w3 : World) (D : Nat → Prop) (B P : Nat) (fold bytes : Bool) (fv : Int) (C : List Ins) (t : Tr) (vs : Array Value) (u : Nat) : Prop where
  mid : PMid w3 (fun g => (D g ∧ g < w.heap.size) ∨ w.heap.size + 3 ≤ g) B P fold bytes fv C w3
  low : Below B w w3
  tk : TK w w3
  bp : Blk w3 w.heap.size #[.pointer (some ⟨P, 0, none⟩)] 25
  bt : Blk w3 (w.heap.size + 1) vs 58
  bo : Blk w3 (w.heap.size + 2) #[.int .i64 (u : Int)] 3
  tree : TrV w3 (SetB w3) t vs
  size : w3.heap.size = w.heap.size + 3
  base : B ≤ w.heap.size
theorem lead_pre {w w1 w2 w3 : World} {D : Nat → Prop} {B P n c : Nat} {fold bytes : Bool} {fv : Int} {A : Option Addr} {C : List Ins} {t : Tr} {vs : Array Value} {u : Nat} (hT : TrV w (SetB w) t vs) (hG : Grow w D B P fold bytes fv A n c C)
    (h1 : w.alloc (.cells #[.pointer (some ⟨P, 0, none⟩)] 25) = w1) (h2 : w1.alloc (.cells vs 58) = w2) (h3 : w2.alloc (.cells #[.int .i64 (u : Int)] 3) = w3) : LPre w w3 D B P fold bytes fv C t vs u := by
  have hB : B ≤ w.heap.size := Nat.le_trans hG.up (Nat.le_of_lt hG.blk.lt)
  have z1 : w1.heap.size = w.heap.size + 1 := by rw [← h1]; simp
  have z2 : w2.heap.size = w.heap.size + 2 := by rw [← h2]; simp [z1]
  have z3 : w3.heap.size = w.heap.size + 3 := by rw [← h3]; simp [z2]
  have b1 : Below w.heap.size w w1 := h1 ▸ (Below.refl w.heap.size w).alloc (Nat.le_refl _) _
  have b2 : Below w.heap.size w w2 := h2 ▸ b1.alloc (by omega) _
  have b3 : Below w.heap.size w w3 := h3 ▸ b2.alloc (by omega) _
  have p1 : Blk w1 w.heap.size #[.pointer (some ⟨P, 0, none⟩)] 25 := h1 ▸ Blk.new w _ _
  have t2 : Blk w2 w1.heap.size vs 58 := h2 ▸ Blk.new w1 _ _
  have o3 : Blk w3 w2.heap.size #[.int .i64 (u : Int)] 3 := h3 ▸ Blk.new w2 _ _
  have p2 : Blk w2 w.heap.size #[.pointer (some ⟨P, 0, none⟩)] 25 := h2 ▸ p1.alloc _
  have p3 : Blk w3 w.heap.size #[.pointer (some ⟨P, 0, none⟩)] 25 := h3 ▸ p2.alloc _
  have t3 : Blk w3 w1.heap.size vs 58 := h3 ▸ t2.alloc _
  rw [z1] at t3
  rw [z2] at o3
  exact ⟨⟨A, n, c, (hG.tight.same b3).weak fun g h => .inl h, Below.refl _ _, TK.refl _, Nat.le_refl _⟩, b3.mono hB, TK.below b3, p3, t3, o3, hT.tk (TK.below b3), z3, hB⟩
theorem LPre.out {w w3 W : World} {D : Nat → Prop} {B P : Nat} {fold bytes : Bool} {fv : Int} {C : List Ins} {t : Tr} {vs : Array Value} {u : Nat} (h : LPre w w3 D B P fold bytes fv C t vs u) {r : Nat × List Ins} (hM : PMid w3 (fun g => (D g ∧ g < w.heap.size) ∨ w.heap.size + 3 ≤ g) B P fold bytes fv r.2 W) :
    LeadOut w D B P fold bytes fv r (.returned (.int .i64 ((r.1 : Nat) : Int))) W := by
  obtain ⟨A', n', c', hG', hb', hk', _⟩ := hM
  exact ⟨rfl, A', n', c', hG'.weak (fun g hg => hg.elim (fun q => .inl q.1) fun q => .inr (by omega)), h.low.trans hb', h.tk.trans hk'⟩
set_option maxRecDepth 100000 in
set_option maxHeartbeats 4000000 in
theorem lead_rest {d : Nat} (IH : LK d) {kind code : Int} {neg : Bool} {set : List (Int × Int)} {lo hi : Int} {kids : List Tr} (k5 : kind ≠ 5) (k6 : kind ≠ 6) (hl : Lim (d + 1) (.mk kind code neg set lo hi kids)) {vs : Array Value} {w : World} {D : Nat → Prop} {B P n c : Nat} {fold bytes : Bool} {fv : Int} {A : Option Addr} {C : List Ins}
    (hT : TrV w (SetB w) (.mk kind code neg set lo hi kids) vs) (hG : Grow w D B P fold bytes fv A n c C) (u : Nat) (hC : C.length + 90000 * (d + 1) ≤ 1000000000) :
    Calls Tryd.prog 46 #[.pointer (some ⟨P, 0, none⟩), .agg vs, .int .i64 (u : Int)] w (LeadOut w D B P fold bytes fv (Tr.laid (.mk kind code neg set lo hi kids) u C)) := by
  obtain ⟨sv, A0, cap, rfl, hkl, hR, hI⟩ := hT.open
  obtain ⟨A3, c3, rfl⟩ := rx_store_set hR
  obtain ⟨w1, h1⟩ : ∃ w1, w.alloc (.cells #[.pointer (some ⟨P, 0, none⟩)] 25) = w1 := ⟨_, rfl⟩
  obtain ⟨w2, h2⟩ : ∃ w2, w1.alloc (.cells #[.int .i64 kind, .int .i64 code, .bool neg, .slice A3 set.length c3, .int .i64 lo, .int .i64 hi, .slice A0 kids.length cap] 58) = w2 := ⟨_, rfl⟩
  obtain ⟨w3, h3⟩ : ∃ w3, w2.alloc (.cells #[.int .i64 (u : Int)] 3) = w3 := ⟨_, rfl⟩
  have L := lead_pre hT hG h1 h2 h3
  have z1 : w1.heap.size = w.heap.size + 1 := by rw [← h1]; simp
  have z2 : w2.heap.size = w.heap.size + 2 := by rw [← h2]; simp [z1]
  have HL := Lib.hid L
  have p0 := L.bp.cell 0
  have o0 := L.bo.cell 0
  simp only [List.getElem?_toArray, List.getElem?_cons_zero] at p0 o0
  obtain ⟨⟨t0, t1, t2, t3, t4, t5, t6⟩, _⟩ := L.bt.seven
  have hst := Lib.hid hl
  rw [Tr.laid]
  by_cases k1 : kind = 1
  · subst k1
    rw [if_pos rfl]
    clear L hT hG hR hI hl k5 k6
    go_enter Tryd.func46, Tryd.ntmps46
    go_wp2_with fail
    go_ret
    exact HL.out.out (r := (u, C)) HL.out.mid
  have b1 : (kind == 1) = false := by rw [beq_eq_false_iff_ne]; exact k1
  have b5 : (kind == 5) = false := by rw [beq_eq_false_iff_ne]; exact k5
  have b6 : (kind == 6) = false := by rw [beq_eq_false_iff_ne]; exact k6
  rw [if_neg k1, if_neg k5, if_neg k6]
  by_cases k7 : kind = 7
  · subst k7
    rw [if_pos rfl]
    obtain ⟨q1, q2, q3, q4, q5⟩ := hl.1 rfl
    match kids, q1 with
    | [t], _ =>
      obtain ⟨A', n', c', hG3, _⟩ := L.mid
      have CR0 := (repeat_any IH (hl.2.2.2 t List.mem_cons_self) ⟨q2, q3, q4, q5⟩ L.tree hG3 u (by omega))
      obtain ⟨⟨r1, r2⟩, hr⟩ : ∃ r, repL (fun x E => Tr.laidHead [t] x E) lo hi u C = r := ⟨_, rfl⟩
      rw [hr] at CR0 ⊢
      simp only [List.length_cons, List.length_nil, Nat.zero_add] at CR0 h2 t6 ⊢
      have CR := Lib.hid CR0
      clear CR0 hr q1
      clear L hT hG hR hI hl k5 k6 k1 b1 b5 b6 hG3
      go_enter Tryd.func46, Tryd.ntmps46
      go_wp2_with fail
      clear h1 h2 h3
      refine CR.out.mono ?_
      rintro e W ⟨rfl, A4, n4, c4, hG4, hb4, hk4⟩
      have HF := Lib.hid (HL.out.out (r := (r1, r2)) ⟨A4, n4, c4, hG4.weak (fun g hg => hg.elim id fun q => .inr (by rw [HL.out.size] at q; exact q)), hb4, hk4, hb4.size⟩)
      clear hG4 hb4 hk4 p0 o0 t0 t1 t2 t3 t4 t5 t6 z1 z2 q2 q3 q4 q5 hC hkl
      go_wp2_with fail
      go_ret
      exact HF.out
  · have b7 : (kind == 7) = false := by rw [beq_eq_false_iff_ne]; exact k7
    rw [if_neg k7]
    have Q4 := Blk.new w3 #[.int .i64 (u : Int)] 3
    have M4 := PMid.alloc (by have := L.base; have := L.size; omega) L.mid (.cells #[.int .i64 (u : Int)] 3)
    have hR4 : RgIn (w3.alloc (.cells #[.int .i64 (u : Int)] 3)) (SetB (w3.alloc (.cells #[.int .i64 (u : Int)] 3))) set (.slice A3 set.length c3) := hR.tk (L.tk.trans (TK.alloc w3 _))
    have CA := Lib.hid (PMid.add (w2 := w3) (fun g hg => .inr (by rw [L.size] at hg; exact hg)) M4 (by omega) (x := ⟨kind, code, neg, set, [u]⟩) (vs := [.int .i64 kind, .int .i64 code, .bool neg, .slice A3 set.length c3, .slice (some ⟨w3.heap.size, 0, none⟩) 1 1]) ⟨_, _, 1, rfl, hR4, by simp, fun j m hj => ⟨w3.heap.size, _, rfl, .inr (by rw [L.size]; exact Nat.le_refl _), Q4, by
      match j, hj with
      | 0, hj => obtain rfl : u = m := by simpa using hj
                 rfl
      | j + 1, hj => simp at hj⟩⟩)
    clear L hT hG hR hI hl k5 k6 k1 k7 M4 Q4 hR4
    go_enter Tryd.func46, Tryd.ntmps46
    go_wp2_with fail
    clear h1 h2 h3
    refine CA.out.mono ?_
    rintro e W ⟨rfl, hM⟩
    have HM := Lib.hid hM
    clear hM
    go_wp2_with fail
    go_ret
    exact HL.out.out (r := (C.length, C ++ [⟨kind, code, neg, set, [u]⟩])) HM.out
end Go.Proofs.YtdfacbcenogplaaDoor

namespace Go.Proofs.YtdfacbcenogplaaDoor
open Go.RowKit Go.Lib Go.Maps

theorem lim_len {d : Nat} {t : Tr} (h : Lim d t) : LenLe (fun u C => t.laid u C) 400 := by
  cases d with
  | zero => exact h.elim
  | succ d => cases t; exact h.2.1
theorem laidAny_le {d : Nat} : ∀ (l : List Tr) (u : Nat) (C : List Ins), (∀ t ∈ l, Lim d t) → (Tr.laidAny l u C).2.length ≤ C.length + l.length * 400
  | [], u, C, _ => by rw [Tr.laidAny]; simp
  | t :: l, u, C, h => by
    rw [Tr.laidAny, List.length_cons]
    have h1 := lim_len (h t List.mem_cons_self) u C
    have h2 := laidAny_le l u (t.laid u C).2 fun x hx => h x (List.mem_cons_of_mem _ hx)
    simp only at h1 h2 ⊢
    omega
theorem PMid.lead2 {d : Nat} (IH : LK d) {w2 : World} {D : Nat → Prop} {B P : Nat} {fold bytes : Bool} {fv : Int} {C : List Ins} {t : Tr} (hl : Lim d t) {vs : Array Value} {W : World} (hT : TrV W (SetB W) t vs) (hD : ∀ g, W.heap.size ≤ g → D g) (h : PMid w2 D B P fold bytes fv C W) (u : Nat) (hC : C.length + 90000 * d ≤ 1000000000) :
    Calls Tryd.prog 46 #[.pointer (some ⟨P, 0, none⟩), .agg vs, .int .i64 (u : Int)] W fun e w' => e = .returned (.int .i64 (((t.laid u C).1 : Nat) : Int)) ∧ PMid w2 D B P fold bytes fv (t.laid u C).2 w' ∧ Below B W w' ∧ TK W w' := by
  obtain ⟨A, n, c, hG, hb, hk, hz⟩ := h
  refine (IH t vs W D B P fold bytes fv A n c C u hl hT hG hC).mono ?_
  rintro e w' ⟨rfl, A', n', c', hG', hb', hk'⟩
  exact ⟨rfl, ⟨A', n', c', hG'.weak (fun g hg => hg.elim id fun q => hD g q), hb.trans hb', hk.trans hk', Nat.le_trans hz hb'.size⟩, hb', hk'⟩
/-- A row of whole numbers grows, aside of a program. -/
theorem Grow.grown {w w' : World} {D : Nat → Prop} {B P : Nat} {fold bytes : Bool} {fv : Int} {A : Option Addr} {n c : Nat} {C : List Ins} (h : Grow w D B P fold bytes fv A n c C) {r : Option Nat} (hg : w.grownBy w' r) (hr : ∀ g cs t, some g = r → Blk w g cs t → t = 3) (hD : ∀ g cs, D g → Blk w g cs 3 → some g ≠ r) : Grow w' D B P fold bytes fv A n c C := by
  obtain ⟨L, hL, hO, hI⟩ := h.row
  have hx : ∀ {g cs t}, Blk w g cs t → t ≠ 3 → some g ≠ r := fun hb ht e => ht (hr _ _ _ e hb)
  refine ⟨h.blk.grown hg (hx h.blk (by decide)), h.up, L, hL, ⟨hO.1, ?_⟩, fun i x hi => ?_⟩
  · rcases hO.2 with h0 | ⟨g, cap, cur, e, hn, hr', hz⟩
    · exact .inl h0
    · have hb : Blk w g cur 91 := ⟨hr'⟩
      exact .inr ⟨g, cap, cur, e, hn, (hb.grown hg (hx hb (by decide))).row, hz⟩
  · obtain ⟨vs, h1, sv, wa, wc, e, hs, hn, hw⟩ := hI i x hi
    refine ⟨vs, h1, sv, wa, wc, e, hs.kept (fun q _ hp => ?_), hn, fun j m hj => ?_⟩
    · obtain ⟨cs, t, hb, ht⟩ := hp
      have := hb.grown hg (hx hb (by rcases ht with rfl | rfl <;> decide))
      exact ⟨⟨cs, t, this, ht⟩, this.row.trans hb.row.symm⟩
    · obtain ⟨q, cs, e', hd, hb, hc⟩ := hw j m hj
      exact ⟨q, cs, e', hd, hb.grown hg (hD q cs hd hb), hc⟩
theorem own_type {w : World} {n : Nat} {t : TypeId} {z k : Nat} {v : Value} {xs : List Value} (h : w.ownsRow n t z v k xs) : ∀ g cs t', some g = v.ownBlock → Blk w g cs t' → t' = t := fun g cs t' e hb => by
  obtain ⟨_, c, hc⟩ := own_at h g e.symm
  have := hb.row
  rw [hc] at this
  injection this with this
  injection this with _ this
  exact this.symm
theorem own_tk {w w' : World} {n : Nat} {t : TypeId} {z k : Nat} {v : Value} {xs : List Value} (h : w.ownsRow n t z v k xs) (hk : TK w w') (h1 : t ≠ 69) (h2 : t ≠ 91) : w'.ownsRow n t z v k xs :=
  own_keep h fun g hg => by
    obtain ⟨_, c, hc⟩ := own_at h g hg
    exact (hk.blk g c t ⟨hc⟩ h1 h2).row.trans hc.symm
/-- The ways' own row has grown. -/
theorem PMid.grown {w3 X w4 : World} {D : Nat → Prop} {B P n k : Nat} {fold bytes : Bool} {fv : Int} {C : List Ins} {v v' : Value} {xs : List Value} (h : PMid w3 (fun g => D g ∧ some g ≠ v.ownBlock) B P fold bytes fv C X) (ho : X.ownsRow n 3 1 v k xs) (hn : w3.heap.size ≤ n) (hB : B ≤ w3.heap.size)
    (hgr : X.grownBy w4 v.ownBlock) (hv : v'.ownBlock = v.ownBlock ∨ v'.ownBlock = some X.heap.size) : PMid w3 (fun g => D g ∧ some g ≠ v'.ownBlock) B P fold bytes fv C w4 := by
  obtain ⟨A, n', c, hG, hb, hk, hz⟩ := h
  have hown : ∀ q, v.ownBlock = some q → w3.heap.size ≤ q := fun q hq => Nat.le_trans hn (own_at ho q hq).1
  have hG2 := (hG.tight.weak (D' := fun g => (D g ∧ some g ≠ v.ownBlock) ∧ some g ≠ v'.ownBlock) (fun g hg => ⟨hg.1, fun e => by
    rcases hv with q | q
    · rw [q] at e; exact hg.1.2 e
    · rw [q] at e
      have := Option.some.inj e
      have := hg.2
      omega⟩)).grown hgr (own_type ho) (fun g _ hg _ => hg.1.2)
  refine ⟨A, n', c, hG2.weak fun g hg => ⟨hg.1.1, hg.2⟩, hb.grown hgr (by omega) (fun q hq => Nat.le_trans hB (hown q hq)), ⟨fun g cs t hg h1 h2 => ?_, fun g o hg hc => ?_⟩, Nat.le_trans hz hgr.size⟩
  · exact (hk.blk g cs t hg h1 h2).grown hgr (fun e => by have := hown g e.symm; have := hg.lt; omega)
  · have hl := (Array.getElem?_eq_some_iff.1 hg).1
    exact (hgr.block g (by omega) (fun e => by have := hown g e.symm; omega)).trans (hk.obj g o hg hc)
def wCells (ws : List Nat) : List Value := ws.map fun m : Nat => Value.int .i64 (m : Int)
theorem info_int : (Tryd.prog.info? 3).map (fun i => (i.zero, i.size, i.bytes)) = some (some (.int .i64 0), 1, 8) := by kernel_rfl
set_option maxRecDepth 100000 in
set_option maxHeartbeats 4000000 in
theorem lead_alt {d : Nat} (IH : LK d) {code : Int} {neg : Bool} {set : List (Int × Int)} {lo hi : Int} {kids : List Tr} (hl : Lim (d + 1) (.mk 6 code neg set lo hi kids)) {vs : Array Value} {w : World} {D : Nat → Prop} {B P n c : Nat} {fold bytes : Bool} {fv : Int} {A : Option Addr} {C : List Ins}
    (hT : TrV w (SetB w) (.mk 6 code neg set lo hi kids) vs) (hG : Grow w D B P fold bytes fv A n c C) (u : Nat) (hC : C.length + 90000 * (d + 1) ≤ 1000000000) :
    Calls Tryd.prog 46 #[.pointer (some ⟨P, 0, none⟩), .agg vs, .int .i64 (u : Int)] w (LeadOut w D B P fold bytes fv (Tr.laid (.mk 6 code neg set lo hi kids) u C)) := by
  obtain ⟨sv, A0, cap, rfl, hkl, hR, hI⟩ := hT.open
  obtain ⟨A3, c3, rfl⟩ := rx_store_set hR
  obtain ⟨ml, hml⟩ : ∃ ml, kids.length = ml := ⟨_, rfl⟩
  obtain ⟨sl, hsl⟩ : ∃ sl, set.length = sl := ⟨_, rfl⟩
  obtain ⟨w1, h1⟩ : ∃ w1, w.alloc (.cells #[.pointer (some ⟨P, 0, none⟩)] 25) = w1 := ⟨_, rfl⟩
  obtain ⟨w2, h2⟩ : ∃ w2, w1.alloc (.cells #[.int .i64 6, .int .i64 code, .bool neg, .slice A3 set.length c3, .int .i64 lo, .int .i64 hi, .slice A0 kids.length cap] 58) = w2 := ⟨_, rfl⟩
  obtain ⟨w3, h3⟩ : ∃ w3, w2.alloc (.cells #[.int .i64 (u : Int)] 3) = w3 := ⟨_, rfl⟩
  have L := lead_pre hT hG h1 h2 h3
  have z1 : w1.heap.size = w.heap.size + 1 := by rw [← h1]; simp
  have z2 : w2.heap.size = w.heap.size + 2 := by rw [← h2]; simp [z1]
  have HL := Lib.hid L
  have HLim := Lib.hid (And.intro hl.2.2.1 hl.2.2.2)
  have HI := Lib.hid (hI.tk L.tk)
  have p0 := L.bp.cell 0
  have o0 := L.bo.cell 0
  simp only [List.getElem?_toArray, List.getElem?_cons_zero] at p0 o0
  have KX := Lib.hid (fun (X : World) (hk : TK w3 X) => And.intro ((hk.blk _ _ _ L.bp (by decide) (by decide)).cell 0) ((hk.blk _ _ _ L.bo (by decide) (by decide)).cell 0))
  obtain ⟨⟨t0, t1, t2, t3, t4, t5, t6⟩, _⟩ := L.bt.seven
  obtain ⟨i0, hi0, hz0, hz1, hz2⟩ := info_parts info_int
  have HII := Lib.hid (And.intro hi0 (And.intro hz0 (And.intro hz1 hz2)))
  have HML := Lib.hid hml
  have HC := Lib.hid hC
  have hml200 : ml ≤ 200 := by rw [← hml]; exact hl.2.2.1
  rw [Tr.laid, if_neg (by decide), if_neg (by decide), if_pos rfl]
  simp only [hml, hsl] at h2 t6 t3 ⊢
  clear L hT hG hR hI hl hkl hi0 hz0 hz1 hz2 hml hsl hC
  go_enter Tryd.func46, Tryd.ntmps46
  go_wp2_with fail
  clear h1 h2 h3 z1 z2 t0 t1 t2 t3 t4 t5 t6 p0 o0
  go_loopw [9, 34] (fun sv kv wr => ∃ (v : Value) (k : Nat), v = sv ∧ kv = .int .i64 (k : Int) ∧ k ≤ ml ∧ wr.ownsRow (w.heap.size + 3) 3 1 v k (wCells (Tr.laidAny (kids.take k) u C).1) ∧ PMid w3 (fun g => ((D g ∧ g < w.heap.size) ∨ w.heap.size + 3 ≤ g) ∧ some g ≠ v.ownBlock) B P fold bytes fv (Tr.laidAny (kids.take k) u C).2 wr) (fun _ kv _ => ml - (RowKit.intOf kv).toNat)
  case atStart =>
    refine ⟨_, 0, rfl, rfl, Nat.zero_le _, ?_, ?_⟩
    · rw [List.take_zero, Tr.laidAny]
      exact World.ownsRow_nil w3 (w.heap.size + 3) 3 1
    · rw [List.take_zero, Tr.laidAny]
      obtain ⟨A', n', c', hG', h⟩ := HL.out.mid
      exact ⟨A', n', c', hG'.weak (fun g hg => ⟨hg, fun e => by cases e⟩), h⟩
  case round =>
    obtain ⟨v, k, rfl, rfl, hk, hO, hM⟩ := hrel
    have hVB : ∀ q, v.ownBlock = some q → w.heap.size + 3 ≤ q ∧ q < wr.heap.size := fun q hq => by
      obtain ⟨h1, c, hc⟩ := own_at hO q hq
      exact ⟨h1, (Array.getElem?_eq_some_iff.1 hc).1⟩
    have hkz := hM.choose_spec.choose_spec.choose_spec.2.2
    obtain ⟨⟨C1, hCe⟩, hC1⟩ : (∃ C1, (Tr.laidAny (kids.take k) u C).2 = C1) ∧ (Tr.laidAny (kids.take k) u C).2.length ≤ C.length + k * 400 := ⟨⟨_, rfl⟩, by
      have := laidAny_le (kids.take k) u C fun t ht => HLim.out.2 t (List.mem_of_mem_take ht)
      rw [List.length_take] at this
      have := HML.out
      have : (min k kids.length) * 400 ≤ k * 400 := Nat.mul_le_mul_right _ (Nat.min_le_left _ _)
      omega⟩
    obtain ⟨ws, hws⟩ : ∃ ws, (Tr.laidAny (kids.take k) u C).1 = ws := ⟨_, rfl⟩
    rw [hCe] at hM hC1
    rw [hws] at hO
    have HM := Lib.hid hM
    have HO := Lib.hid hO
    have HV := Lib.hid hVB
    have HC1 := Lib.hid hC1
    have HE := Lib.hid (show Tr.laidAny (kids.take k) u C = (ws, C1) from by rw [← hws, ← hCe])
    obtain ⟨p0, o0⟩ := KX.out wr hkz.1
    have hsz := HL.out.size
    have hzz := hkz.2
    clear hM hVB hO hC1 hCe hws
    by_cases hlt : k < ml
    · have hkl2 : k < kids.length := by rw [HML.out]; exact hlt
      obtain ⟨t, ht⟩ : ∃ t, kids[k] = t := ⟨_, rfl⟩
      have hmem : t ∈ kids := by rw [← ht]; exact List.getElem_mem hkl2
      obtain ⟨k1, hk1⟩ : ∃ k1, k + 1 = k1 := ⟨_, rfl⟩
      obtain ⟨⟨r1, D1⟩, hr⟩ : ∃ r, t.laid u C1 = r := ⟨_, rfl⟩
      have HE1 := Lib.hid (show Tr.laidAny (kids.take k1) u C = (ws ++ [r1], D1) by rw [← hk1, List.take_succ_eq_append_getElem hkl2, ht, laidAny_snoc, HE.out]; simp only [hr])
      obtain ⟨g, kind1, code1, neg1, A31, n31, c31, lo1, hi1, A21, n21, c21, hA, ⟨u0, u1, u2, u3, u4, u5, u6⟩, hTt⟩ := TrV.at (HI.out.tk hkz.1) k t (by rw [List.getElem?_eq_getElem hkl2, ht])
      subst hA
      have K0 := Blk.new wr #[.int .i64 kind1, .int .i64 code1, .bool neg1, .slice A31 n31 c31, .int .i64 lo1, .int .i64 hi1, .slice A21 n21 c21] 58
      have M0 := PMid.alloc (by have := HL.out.base; omega) HM.out (.cells #[.int .i64 kind1, .int .i64 code1, .bool neg1, .slice A31 n31 c31, .int .i64 lo1, .int .i64 hi1, .slice A21 n21 c21] 58)
      have k0 := TK.alloc wr (.cells #[.int .i64 kind1, .int .i64 code1, .bool neg1, .slice A31 n31 c31, .int .i64 lo1, .int .i64 hi1, .slice A21 n21 c21] 58)
      obtain ⟨X0, hX0⟩ : ∃ X0, wr.alloc (.cells #[.int .i64 kind1, .int .i64 code1, .bool neg1, .slice A31 n31 c31, .int .i64 lo1, .int .i64 hi1, .slice A21 n21 c21] 58) = X0 := ⟨_, rfl⟩
      have hzX : wr.heap.size ≤ X0.heap.size := by rw [← hX0]; simp
      rw [hX0] at K0 M0 k0
      obtain ⟨p1, o1⟩ := KX.out X0 (hkz.1.trans k0)
      obtain ⟨s0, s1, s2, s3, s4, s5, s6⟩ := K0.seven.1
      have CL := Lib.hid (PMid.lead2 IH (HLim.out.2 t hmem) (hTt.tk k0) (fun g hg => ⟨.inr (by omega), fun e => by have := HV.out g e.symm; omega⟩) M0 u (by have := HC.out; have := HC1.out; omega))
      rw [hr] at CL
      have HOX := Lib.hid (own_tk HO.out k0 (by decide) (by decide))
      have hw2 : IntKind.i64.wrap ((k : Int) + 1) = (k1 : Int) := by simp [IntKind.wrap, IntKind.bits, IntKind.signed]; omega
      have HK := Lib.hid hk1
      have hzX2 : w.heap.size + 3 ≤ X0.heap.size := by omega
      clear ht hmem hr hTt K0 M0 k0 hkz hkl2 hk1 hsz hzz hzX
      go_wp2_with fail
      clear hX0
      refine CL.out.mono ?_
      rintro e X1 ⟨rfl, hM1, hB1, hK1⟩
      have HM1 := Lib.hid hM1
      have HO1 := Lib.hid (own_tk HOX.out hK1 (by decide) (by decide))
      have hz1 : X0.heap.size ≤ X1.heap.size := hB1.size
      have hle : (wCells ws).length = k := by have := HO.out.1; omega
      clear hM1 hB1 hK1 p1 o1 s0 s1 s2 s3 s4 s5 s6 p0 o0 u0 u1 u2 u3 u4 u5 u6 CL HOX
      go_wp2_with (at_builtin; refine wpList_append_own_at _ rfl _ _ 73 rfl (w.heap.size + 3) 3 i0 _ 1 8 Tryd.underlying73 HII.out.1 HII.out.2.1 HII.out.2.2.1 HII.out.2.2.2 rfl (by decide) v k (wCells ws) rfl (HO1.out.alloc _) ⟨X1.heap.size, 0, none⟩ 1 1 [.int .i64 (r1 : Int)] rfl rfl (nrow_new X1 #[.int .i64 (r1 : Int)] 3) (by simp [Value.oneCell']) (by unfold maxLen; omega) (by omega) (by simp; omega) ?_)
      rintro v' w4 ho2 hgr _ hvv
      have M2 := PMid.alloc (w2 := w3) (by have := HL.out.base; have := HL.out.size; omega) HM1.out (.cells #[.int .i64 (r1 : Int)] 3)
      have HM4 := Lib.hid (PMid.grown (n := w.heap.size + 3) M2 (HO1.out.alloc _) (by rw [HL.out.size]; exact Nat.le_refl _) (by have := HL.out.base; have := HL.out.size; omega) hgr (by rw [World.size_alloc]; exact hvv))
      have HO4 := Lib.hid ho2
      clear ho2 hgr hvv M2
      go_wp2_with fail
      refine ⟨⟨v', k1, rfl, rfl, by have := HK.out; omega, ?_, ?_⟩, ?_⟩
      · rw [HE1.out, ← HK.out]
        have := HO4.out
        show w4.ownsRow _ _ _ _ _ (wCells (ws ++ [r1]))
        unfold wCells at this ⊢
        rw [List.map_append]
        exact this
      · rw [HE1.out]
        exact HM4.out
      · have := HK.out
        simp [RowKit.intOf]
        omega
    · obtain rfl : k = ml := by omega
      have hkn : kids.take k = kids := List.take_of_length_le (by rw [HML.out]; omega)
      have hE := HE.out
      rw [hkn] at hE
      obtain ⟨Av, cv, rfl⟩ := own_slice HO.out
      have hle : ws.length = k := by have := HO.out.1; unfold wCells at this; rw [List.length_map] at this; omega
      have hXT : InsT wr (fun g => (D g ∧ g < w.heap.size) ∨ w.heap.size + 3 ≤ g) (insAlt ws) [.int .i64 6, .int .i64 0, .bool false, .slice none 0 0, .slice Av k cv] := by
        refine ⟨.slice none 0 0, Av, cv, by rw [← hle]; rfl, RgIn.nil _ _ _ _, by show ws.length ≤ 100000; omega, fun j m hj => ?_⟩
        have hj' : ws[j]? = some m := hj
        have hjl := (List.getElem?_eq_some_iff.1 hj').1
        rcases HO.out.2 with ⟨e, h0⟩ | ⟨q, cap', cur, e, hq, hr', _⟩
        · omega
        · injection e with e1
          refine ⟨q, cur, e1, .inr hq, ⟨hr'⟩, ?_⟩
          have hc := HO.out.cells (by rw [e1]; rfl) j (.int .i64 (m : Int)) (by unfold wCells; rw [List.getElem?_map, hj']; rfl)
          rw [Addr.add_lit, Nat.zero_add] at hc
          exact (Blk.cell ⟨hr'⟩ j).symm.trans hc
      have hMw : PMid w3 (fun g => (D g ∧ g < w.heap.size) ∨ w.heap.size + 3 ≤ g) B P fold bytes fv C1 wr := by
        obtain ⟨A', n', c', hG', h⟩ := HM.out
        exact ⟨A', n', c', hG'.weak (fun g hg => hg.1), h⟩
      have CA := Lib.hid (PMid.add (fun g hg => .inr (by omega)) hMw (by have := HC.out; have := HC1.out; omega) hXT)
      have HE2 := Lib.hid hE
      clear hXT hMw hE hkn hkz hsz hzz hle
      go_wp2_with fail
      refine CA.out.mono ?_
      rintro e W ⟨rfl, hM⟩
      have HM5 := Lib.hid hM
      clear hM
      go_wp2_with fail
      go_ret
      have := HL.out.out (r := (C1.length, C1 ++ [insAlt ws])) HM5.out
      rw [HE2.out]
      exact this
end Go.Proofs.YtdfacbcenogplaaDoor

namespace Go.Proofs.YtdfacbcenogplaaDoor
open Go.RowKit Go.Lib Go.Maps
attribute [local go_sem] Oper.semAt_some

/-- Some of the kids laid, one ahead of the other. -/
def rowS {m : Nat} (kt : Fin m → Tr) (s : Nat × List Ins) : List (Nat × Fin m) → Nat × List Ins
  | [] => s
  | x :: l => rowS kt ((kt x.2).laid s.1 s.2) l
theorem rowS_snoc {m : Nat} (kt : Fin m → Tr) : ∀ (l : List (Nat × Fin m)) (s : Nat × List Ins) (x : Nat × Fin m), rowS kt s (l ++ [x]) = (kt x.2).laid (rowS kt s l).1 (rowS kt s l).2
  | [], _, _ => rfl
  | _ :: l, _, x => rowS_snoc kt l _ x
theorem rowS_len {m d : Nat} (kt : Fin m → Tr) (h : ∀ j, Lim d (kt j)) : ∀ (l : List (Nat × Fin m)) (s : Nat × List Ins), (rowS kt s l).2.length ≤ s.2.length + l.length * 400
  | [], s => by simp [rowS]
  | x :: l, s => by
    have h1 := lim_len (h x.2) s.1 s.2
    have h2 := rowS_len kt h l ((kt x.2).laid s.1 s.2)
    simp only at h1
    rw [rowS, List.length_cons]
    omega
theorem rowS_row (kids : List Tr) {m : Nat} (hm : kids.length = m) (kt : Fin m → Tr) (hkt : ∀ j, kids[j.val]? = some (kt j)) : ∀ (k : Nat), k ≤ m → ∀ (l : List (Nat × Fin m)) (u : Nat) (C : List Ins), plK l = lastK m k → rowS kt (u, C) l = Tr.laidRow (kids.drop (m - k)) u C
  | 0, _, l, u, C, h => by
    have hl := plK_len h
    have : l = [] := List.eq_nil_of_length_eq_zero hl
    subst this
    rw [Nat.sub_zero, List.drop_of_length_le (by omega), Tr.laidRow]
    rfl
  | k + 1, hk, l, u, C, h => by
    have hl := plK_len h
    rcases List.eq_nil_or_concat l with e | ⟨l', x, e⟩
    · rw [e] at hl; simp at hl
    · rw [List.concat_eq_append] at e
      subst e
      rw [plK_snoc, lastK_succ] at h
      obtain ⟨h1, h2⟩ := List.append_inj' h rfl
      have hx : x.2.val = m - 1 - k := by simpa using h2
      have hi : m - (k + 1) < kids.length := by omega
      rw [rowS_snoc, rowS_row kids hm kt hkt k (by omega) l' u C h1, laidRow_drop kids _ hi, show m - (k + 1) + 1 = m - k by omega]
      have h3 := hkt x.2
      have h4 : x.2.val = m - (k + 1) := by omega
      rw [h4, List.getElem?_eq_getElem hi] at h3
      rw [Option.some.inj h3]
/-- A program is the same while a mark turns. -/
theorem PMid.own {w2 W W' : World} {D : Nat → Prop} {B P n : Nat} {fold bytes : Bool} {fv : Int} {C : List Ins} (h : PMid w2 D B P fold bytes fv C W) (hB : B ≤ w2.heap.size) (h2 : w2.heap.size ≤ n) {row : Option Nat} (hg : W.grownBy W' row) (hr : ∀ j, row = some j → n ≤ j ∧ ∃ o, W.heap[j]? = some o ∧ o.isCells = false) : PMid w2 D B P fold bytes fv C W' := by
  have hx : ∀ {g : Nat} {cs : Array Value} {t : TypeId}, Blk W g cs t → some g ≠ row := fun {g cs t} hb e => by
    obtain ⟨_, o, ho, hc⟩ := hr g e.symm
    rw [hb.row] at ho
    cases ho
    cases hc
  obtain ⟨A, n', c, hG, hb, hk, hz⟩ := h
  refine ⟨A, n', c, hG.grown hg (fun g cs t e hb' => absurd e (hx hb')) (fun g cs _ hb' => hx hb'), hb.grown hg (Nat.le_trans hB hz) (fun j e => by have := (hr j e).1; omega), ⟨fun g cs t hg' h1 h3 => (hk.blk g cs t hg' h1 h3).grown hg (hx (hk.blk g cs t hg' h1 h3)), fun g o ho hc => ?_⟩, Nat.le_trans hz hg.size⟩
  have hl := (Array.getElem?_eq_some_iff.1 ho).1
  exact (hg.block g (by omega) (fun e => by have := (hr g e.symm).1; omega)).trans (hk.obj g o ho hc)
/-- A store into a whole number's box, aside of a program. -/
theorem PMid.aside {w2 W : World} {D : Nat → Prop} {B P : Nat} {fold bytes : Bool} {fv : Int} {C : List Ins} (h : PMid w2 D B P fold bytes fv C W) {g : Nat} {cs : Array Value} (hg : Blk W g cs 3) (hD : ¬ D g) (h2 : w2.heap.size ≤ g) (hB : B ≤ g) (v : Value) : PMid w2 D B P fold bytes fv C (W.setCell ⟨g, 0, none⟩ v) := by
  obtain ⟨A, n', c, hG, hb, hk, hz⟩ := h
  exact ⟨A, n', c, hG.aside hg hD v, hb.setCell (p := ⟨g, 0, none⟩) hB v, hk.set (p := ⟨g, 0, none⟩) h2 v, Nat.le_trans hz ((Below.refl 0 W).setCell (p := ⟨g, 0, none⟩) (Nat.zero_le _) v).size⟩
/-- How it stands between the rounds. -/
structure RowJ (w W : World) (D : Nat → Prop) (B P : Nat) (fold bytes : Bool) (fv : Int) (vs : Array Value) (A0 : Option Addr) (ml cap : Nat) (r : Nat × List Ins) : Prop where
  mid : PMid w (fun g => (D g ∧ g < w.heap.size) ∨ w.heap.size + 3 ≤ g) B P fold bytes fv r.2 W
  bp : Blk W w.heap.size #[.pointer (some ⟨P, 0, none⟩)] 25
  bt : Blk W (w.heap.size + 1) vs 58
  bo : Blk W (w.heap.size + 2) #[.int .i64 ((r.1 : Nat) : Int)] 3
  bs : Blk W (w.heap.size + 3) #[.slice A0 ml cap] 56
theorem RowJ.own {w W W' : World} {D : Nat → Prop} {B P n : Nat} {fold bytes : Bool} {fv : Int} {vs : Array Value} {A0 : Option Addr} {ml cap : Nat} {r : Nat × List Ins} (h : RowJ w W D B P fold bytes fv vs A0 ml cap r) (hB : B ≤ w.heap.size) (hn : w.heap.size + 4 ≤ n) {row : Option Nat} (hg : W.grownBy W' row) (hr : ∀ j, row = some j → n ≤ j ∧ ∃ o, W.heap[j]? = some o ∧ o.isCells = false) : RowJ w W' D B P fold bytes fv vs A0 ml cap r := by
  have hx : ∀ {g : Nat} {cs : Array Value} {t : TypeId}, Blk W g cs t → some g ≠ row := fun {g cs t} hb e => by
    obtain ⟨_, o, ho, hc⟩ := hr g e.symm
    rw [hb.row] at ho
    cases ho
    cases hc
  exact ⟨h.mid.own hB (by omega) hg hr, h.bp.grown hg (hx h.bp), h.bt.grown hg (hx h.bt), h.bo.grown hg (hx h.bo), h.bs.grown hg (hx h.bs)⟩
theorem RowJ.alloc {w W : World} {D : Nat → Prop} {B P : Nat} {fold bytes : Bool} {fv : Int} {vs : Array Value} {A0 : Option Addr} {ml cap : Nat} {r : Nat × List Ins} (h : RowJ w W D B P fold bytes fv vs A0 ml cap r) (hB : B ≤ w.heap.size) (o : Obj) : RowJ w (W.alloc o) D B P fold bytes fv vs A0 ml cap r := ⟨PMid.alloc hB h.mid o, h.bp.alloc o, h.bt.alloc o, h.bo.alloc o, h.bs.alloc o⟩
set_option maxRecDepth 100000 in
set_option maxHeartbeats 4000000 in
theorem lead_cat_in {d : Nat} (IH : LK d) {code : Int} {neg : Bool} {set : List (Int × Int)} {lo hi : Int} {kids : List Tr} (hl : Lim (d + 1) (.mk 5 code neg set lo hi kids)) {vs : Array Value} {w : World} {D : Nat → Prop} {B P n c : Nat} {fold bytes : Bool} {fv : Int} {A : Option Addr} {C : List Ins}
    (hT : TrV w (SetB w) (.mk 5 code neg set lo hi kids) vs) (hG : Grow w D B P fold bytes fv A n c C) (u : Nat) (hC : C.length + 90000 * (d + 1) ≤ 1000000000) :
    CallsIn Fence.wide 10 Tryd.prog 46 #[.pointer (some ⟨P, 0, none⟩), .agg vs, .int .i64 (u : Int)] w (LeadOut w D B P fold bytes fv (Tr.laid (.mk 5 code neg set lo hi kids) u C)) := by
  obtain ⟨sv, A0, cap, rfl, hkl, hR, hI⟩ := hT.open
  obtain ⟨A3, c3, rfl⟩ := rx_store_set hR
  obtain ⟨ml, hml⟩ : ∃ ml, kids.length = ml := ⟨_, rfl⟩
  obtain ⟨sl, hsl⟩ : ∃ sl, set.length = sl := ⟨_, rfl⟩
  obtain ⟨w1, h1⟩ : ∃ w1, w.alloc (.cells #[.pointer (some ⟨P, 0, none⟩)] 25) = w1 := ⟨_, rfl⟩
  obtain ⟨w2, h2⟩ : ∃ w2, w1.alloc (.cells #[.int .i64 5, .int .i64 code, .bool neg, .slice A3 set.length c3, .int .i64 lo, .int .i64 hi, .slice A0 kids.length cap] 58) = w2 := ⟨_, rfl⟩
  obtain ⟨w3, h3⟩ : ∃ w3, w2.alloc (.cells #[.int .i64 (u : Int)] 3) = w3 := ⟨_, rfl⟩
  have L := lead_pre hT hG h1 h2 h3
  have z1 : w1.heap.size = w.heap.size + 1 := by rw [← h1]; simp
  have z2 : w2.heap.size = w.heap.size + 2 := by rw [← h2]; simp [z1]
  have HL := Lib.hid L
  have HLim := Lib.hid (And.intro hl.2.2.1 hl.2.2.2)
  have HI := Lib.hid (hI.tk L.tk)
  have HIW := Lib.hid hI
  obtain ⟨⟨t0, t1, t2, t3, t4, t5, t6⟩, _⟩ := L.bt.seven
  have HML := Lib.hid hml
  have HSL := Lib.hid hsl
  have HC := Lib.hid hC
  have hml200 : ml ≤ 200 := by rw [← hml]; exact hl.2.2.1
  rw [Tr.laid, if_neg (by decide), if_pos rfl]
  simp only [hml, hsl] at h2 t6 t3 ⊢
  clear L hT hG hR hI hl hkl hml hsl hC
  refine callsIn_of_wp_marks Tryd.func46 rfl trivial ?_ rfl
  simp only [Tryd.ntmps46, List.size_toArray, List.length_cons, List.length_nil, Nat.reduceAdd, Nat.reduceSub, Array.replicate_succ, Array.replicate_zero, List.push_toArray, List.append_toArray, List.nil_append, List.cons_append]
  gi_wp2_with fail
  clear h1 h2 h3 z1 z2
  refine ⟨trivial, (callsIn_wide.2 (back_new A0 ml cap w3)).mono ?_⟩
  rintro e w4 ⟨rfl, hw4⟩
  have hKV : ∀ j : Fin ml, ∃ q : Array Value × Tr, KidAt w3 A0 j q.1 ∧ kids[j.val]? = some q.2 ∧ TrV w3 (SetB w3) q.2 q.1 := fun j => by
    have hj : j.val < kids.length := by rw [HML.out]; exact j.2
    obtain ⟨g, kind1, code1, neg1, A31, n31, c31, lo1, hi1, A21, n21, c21, hA, hcs, hTt⟩ := TrV.at HI.out j.val kids[j.val] (List.getElem?_eq_getElem hj)
    exact ⟨(_, kids[j.val]), ⟨g, kind1, code1, neg1, A31, n31, c31, lo1, hi1, A21, n21, c21, hA, rfl, hcs⟩, List.getElem?_eq_getElem hj, hTt⟩
  obtain ⟨kq, hkq⟩ := Classical.skolem.1 hKV
  obtain ⟨kv, hkv⟩ : ∃ kv : Fin ml → Array Value, ∀ j, kv j = (kq j).1 := ⟨fun j => (kq j).1, fun _ => rfl⟩
  obtain ⟨kt, hkt⟩ : ∃ kt : Fin ml → Tr, ∀ j, kt j = (kq j).2 := ⟨fun j => (kq j).2, fun _ => rfl⟩
  have HK := Lib.hid (show ∀ j : Fin ml, KidAt w3 A0 j (kv j) ∧ kids[j.val]? = some (kt j) ∧ TrV w3 (SetB w3) (kt j) (kv j) from fun j => by rw [hkv, hkt]; exact hkq j)
  clear hKV hkq hkv hkt
  have HGB := Lib.hid (show ∀ g, A0 = some ⟨g, 0, none⟩ → 0 < ml → SetB w3 g from fun g e hm => by
    obtain ⟨k0, hk0⟩ : ∃ k0, kids[0]? = some k0 := ⟨_, List.getElem?_eq_getElem (by rw [HML.out]; exact hm)⟩
    obtain ⟨g', e', hp, _⟩ := HI.out.at 0 k0 hk0
    rw [e] at e'
    cases e'
    exact hp)
  have HGW := Lib.hid (show ∀ g, A0 = some ⟨g, 0, none⟩ → 0 < ml → SetB w g from fun g e hm => by
    obtain ⟨k0, hk0⟩ : ∃ k0, kids[0]? = some k0 := ⟨_, List.getElem?_eq_getElem (by rw [HML.out]; exact hm)⟩
    obtain ⟨g', e', hp, _⟩ := HIW.out.at 0 k0 hk0
    rw [e] at e'
    cases e'
    exact hp)
  have HTR := Lib.hid (show ∀ (j : Fin ml) (X : World), TK w X → TrV X (SetB X) (kt j) (kv j) from fun j X hX => by
    obtain ⟨g, kind1, code1, neg1, A31, n31, c31, lo1, hi1, A21, n21, c21, hA, hv, hcs⟩ := (HK.out j).1
    obtain ⟨g', kind2, code2, neg2, A32, n32, c32, lo2, hi2, A22, n22, c22, hA', hcs', hT'⟩ := TrV.at HIW.out j.val (kt j) (HK.out j).2.1
    rw [hA] at hA'
    cases hA'
    have hb := ((HGW.out g hA (by have := j.2; omega)).tk HL.out.tk).2
    have e3 : ∀ i, w3.cell? ⟨g, i, none⟩ = w.cell? ⟨g, i, none⟩ := fun i => World.cell?_of_block (a := ⟨g, i, none⟩) hb
    obtain ⟨a0, a1, a2, a3, a4, a5, a6⟩ := hcs
    obtain ⟨b0, b1, b2, b3, b4, b5, b6⟩ := hcs'
    rw [e3] at a0 a1 a2 a3 a4 a5 a6
    rw [a0] at b0
    rw [a1] at b1
    rw [a2] at b2
    rw [a3] at b3
    rw [a4] at b4
    rw [a5] at b5
    rw [a6] at b6
    cases b0
    cases b1
    cases b2
    cases b3
    cases b4
    cases b5
    cases b6
    rw [hv]
    exact hT'.tk hX)
  have hlim : ∀ j, Lim d (kt j) := fun j => HLim.out.2 _ (List.mem_of_getElem? (HK.out j).2.1)
  have hz4 : w4.heap.size = w.heap.size + 4 := by rw [← hw4]; simp [HL.out.size]
  have hbs : Blk w4 (w.heap.size + 3) #[.slice A0 ml cap] 56 := by
    have := Blk.new w3 #[.slice A0 ml cap] 56
    rw [hw4, HL.out.size] at this
    exact this
  have hB3 : B ≤ w3.heap.size := by have := HL.out.base; have := HL.out.size; omega
  have J0 : RowJ w w4 D B P fold bytes fv #[.int .i64 5, .int .i64 code, .bool neg, .slice A3 sl c3, .int .i64 lo, .int .i64 hi, .slice A0 ml cap] A0 ml cap (u, C) := by
    obtain ⟨A', n', c', hG', hb', hk', hz'⟩ := PMid.alloc hB3 HL.out.mid (.cells #[.slice A0 ml cap] 56)
    rw [hw4] at hG' hb' hk' hz'
    have bt := HL.out.bt
    rw [HML.out, HSL.out] at bt
    exact ⟨⟨A', n', c', hG', HL.out.low.trans hb', HL.out.tk.trans hk', by omega⟩, hw4 ▸ HL.out.bp.alloc _, hw4 ▸ bt.alloc _, hw4 ▸ HL.out.bo.alloc _, hbs⟩
  have HJ0 := Lib.hid J0
  have k34 : TK w3 w4 := hw4 ▸ TK.alloc w3 _
  have SV := Lib.hid (back_stops 9 (by omega) w3.heap.size A0 ml cap kv (by omega) w4 (by rw [HL.out.size]; exact hbs) (fun g e hm => ((HGB.out g e hm).tk k34).1.lt) (fun j => (HK.out j).1.kept fun g e => ((HGB.out g e (by have := j.2; omega)).tk k34).2))
  have HZ4 := Lib.hid hz4
  have HLM := Lib.hid hlim
  have hsz3 := HL.out.size
  have HT3 := Lib.hid hsz3
  clear J0 hbs hw4 hz4 hlim hsz3 k34
  gi_wp2_with fail
  refine wpIn_rangeFunc_ownH rfl (by omega) (gf := 108) (lb := #[.pointer (some ⟨w3.heap.size, 0, none⟩)]) rfl trivial (enters_of Tryd.func108 (by kernel_rfl) rfl)
    SV.out (fun h k => h.trans k) (fun W l o o' hl _ _ _ => ⟨World.putObj_heap_other (by have := HT3.out; have := HZ4.out; omega), fun g e hm => World.putObj_heap_other (by have := (HGB.out g e hm).lt; have := HT3.out; have := HZ4.out; omega)⟩) (Below.refl _ _) (fun _ => rfl)
    (fun pre W => RowJ w W D B P fold bytes fv #[.int .i64 5, .int .i64 code, .bool neg, .slice A3 sl c3, .int .i64 lo, .int .i64 hi, .slice A0 ml cap] A0 ml cap (rowS kt (u, C) pre) ∧ w4.heap.size ≤ W.heap.size)
    (fun _ _ _ => False) ?hI (fun _ _ _ _ _ hs _ _ => hs) ⟨HJ0.out, Nat.le_refl _⟩
    (fun x a' W => ∃ X, w4.heap.size ≤ X ∧ Blk W X (kv x.2) 58 ∧ a' = { tmps := #[.pointer (some ⟨P, 0, none⟩), .agg #[.int .i64 5, .int .i64 code, .bool neg, .slice A3 sl c3, .int .i64 lo, .int .i64 hi, .slice A0 ml cap], .int .i64 (u : Int), .pointer (some ⟨w.heap.size, 0, none⟩), .pointer (some ⟨w.heap.size + 1, 0, none⟩), .pointer (some ⟨w.heap.size + 2, 0, none⟩), .int .i64 0, undef, .pointer (some ⟨X, 0, none⟩), undef, undef, undef, .pointer (some ⟨w.heap.size + 1, 0, none⟩), .int .i64 5, .bool false, .bool false, undef, .bool true, .bool true, .pointer (some ⟨w.heap.size + 1, 6, none⟩), .slice A0 ml cap, .func (.func 108) #[] #[.pointer (some ⟨w3.heap.size, 0, none⟩)], .int .i64 (x.1 : Int), .agg (kv x.2), undef, undef, undef, undef, undef, undef, undef, undef, undef, undef, undef, undef, undef, undef, undef, undef, undef, undef, undef, undef, undef, undef, undef, undef, undef, undef, undef, undef, undef, undef, undef, undef, undef, undef, undef, undef, undef, undef, undef, undef, undef, undef, undef, undef, undef], defers := [] }) ?hAx ?assign ?body ?done ?stop
  case hI =>
    rintro s W W' row ⟨h1, h2⟩ hg hr
    exact ⟨h1.own HL.out.base (by rw [HZ4.out]; exact Nat.le_refl _) hg hr, Nat.le_trans h2 hg.size⟩
  case hAx =>
    rintro x a' _ W W' row ⟨X, h1, h2, h3⟩ hg hr
    exact ⟨X, h1, Blk.grown h2 hg (fun q => by obtain ⟨_, o, ho, hc⟩ := hr X q.symm; rw [h2.row] at ho; cases ho; cases hc), h3⟩
  case assign =>
    rintro l pre x W K ⟨h1, h2⟩ hK
    obtain ⟨g, kind1, code1, neg1, A31, n31, c31, lo1, hi1, A21, n21, c21, -, hv, -⟩ := (HK.out x.2).1
    simp only [encK, hv] at hK ⊢
    gi_wp2
    refine hK _ _ ((KeepsOthers.alloc _ _).from _) ⟨Below.heap_alloc W _ _ (by have := h1.bs.lt; have := HT3.out; omega), fun g e hm => Below.heap_alloc W _ g (by have := (HGB.out g e hm).lt; have := HT3.out; have := HZ4.out; omega)⟩ ⟨h1.alloc HL.out.base _, by simp; omega⟩ ⟨W.heap.size, h2, Blk.new W _ _, rfl⟩
  case body =>
    rintro l pre x a' W hl ⟨rec, hr⟩ ⟨h1, h2⟩ ⟨X, hX, hXB, rfl⟩ hlt
    obtain ⟨g, kind1, code1, neg1, A31, n31, c31, lo1, hi1, A21, n21, c21, -, hv, -⟩ := (HK.out x.2).1
    have hTt := (HK.out x.2).2.2
    rw [hv] at hXB hTt ⊢
    obtain ⟨⟨r1, r2⟩, hr1⟩ : ∃ r, rowS kt (u, C) pre = r := ⟨_, rfl⟩
    have hlen := rowS_len kt HLM.out pre (u, C)
    rw [hr1] at h1 hlen
    simp only at hlen
    obtain ⟨⟨f1, f2⟩, hf1⟩ : ∃ r, (kt x.2).laid r1 r2 = r := ⟨_, rfl⟩
    have hsn : rowS kt (u, C) (pre ++ [x]) = (f1, f2) := by rw [rowS_snoc, hr1]; exact hf1
    have hkw : TK w W := h1.mid.choose_spec.choose_spec.choose_spec.2.2.1
    have hlow : ∀ q, A0 = some ⟨q, 0, none⟩ → 0 < ml → SetB W q := fun q e hm => by
      exact ((HGW.out q e hm).tk hkw).1
    have CL := Lib.hid (PMid.lead2 IH (HLM.out x.2) (HTR.out x.2 W hkw) (fun g hg => .inr (by have := HZ4.out; omega)) h1.mid r1 (by show r2.length + 90000 * d ≤ 1000000000; have := HC.out; have h8 : pre.length ≤ 200 := (by omega); have h9 : pre.length * 400 ≤ 80000 := Nat.mul_le_mul_right 400 h8; omega))
    rw [hf1, hv] at CL
    have HJ := Lib.hid h1
    have HS := Lib.hid (And.intro hsn (And.intro h2 hlow))
    have p0 := h1.bp.cell 0
    have o0 := h1.bo.cell 0
    simp only [List.getElem?_toArray, List.getElem?_cons_zero] at p0 o0
    obtain ⟨s0, s1, s2, s3, s4, s5, s6⟩ := hXB.seven.1
    have hne : X ≠ w.heap.size + 2 := by have := HZ4.out; omega
    clear h1 hlen hf1 hsn hkw hTt hv hr1 hlow
    gi_wp2_with fail
    refine ⟨trivial, (CallsIn.inRound l (callsIn_wide.2 CL.out)).mono ?_⟩
    rintro e W2 ⟨rfl, hM2, hB2, hK2⟩
    have bo2 := hK2.blk _ _ _ HJ.out.bo (by decide) (by decide)
    have o2 := bo2.cell 0
    have g2 := bo2.fro 0
    simp only [List.getElem?_toArray, List.getElem?_cons_zero] at o2
    have HX := Lib.hid (And.intro hM2 (And.intro hB2 (And.intro hK2 bo2)))
    clear hM2 hB2 hK2 bo2 p0 o0 s0 s1 s2 s3 s4 s5 s6 CL
    gi_wp2_with fail
    obtain ⟨hM2, hB2, hK2, bo2⟩ := HX.out
    have hset : ∀ q, q ≠ w.heap.size + 2 → (W2.setCell ⟨w.heap.size + 2, 0, none⟩ (.int .i64 (f1 : Int))).heap[q]? = W2.heap[q]? := fun q hq => Below.heap_setCell W2 ⟨w.heap.size + 2, 0, none⟩ _ q hq
    have hz5 : W2.heap.size ≤ (W2.setCell ⟨w.heap.size + 2, 0, none⟩ (.int .i64 (f1 : Int))).heap.size := ((Below.refl 0 W2).setCell (p := ⟨w.heap.size + 2, 0, none⟩) (Nat.zero_le _) _).size
    refine ⟨⟨Nat.le_trans hB2.size hz5, fun k o hk ho hc => ?_⟩, ⟨?_, fun q e hm => ?_⟩, ?_, ?_⟩
    · exact (hset k (by have := HZ4.out; omega)).trans (hK2.obj k o ho hc)
    · have b3 := HJ.out.bs
      rw [HT3.out]
      exact (hset _ (by omega)).trans ((hK2.blk _ _ _ b3 (by decide) (by decide)).row.trans b3.row.symm)
    · have := (HS.out.2.2 q e hm).tk hK2
      obtain ⟨cs, t, hb, ht⟩ := this.1
      have hne := Blk.apart hb bo2 (by rcases ht with rfl | rfl <;> decide)
      exact (hset q hne).trans this.2
    · rw [HS.out.1]
      refine ⟨PMid.aside hM2 bo2 (fun q => by rcases q with q | q <;> omega) (by omega) (by have := HL.out.base; omega) _, (hK2.blk _ _ _ HJ.out.bp (by decide) (by decide)).other (by omega), (hK2.blk _ _ _ HJ.out.bt (by decide) (by decide)).other (by omega), bo2.set, (hK2.blk _ _ _ HJ.out.bs (by decide) (by decide)).other (by omega)⟩
    · exact Nat.le_trans HS.out.2.1 (Nat.le_trans hB2.size hz5)
  case done =>
    rintro D' xs W hD hS ⟨h1, h2⟩ hK
    have hrow := rowS_row kids HML.out kt (fun j => (HK.out j).2.1) ml (Nat.le_refl _) xs u C hS
    rw [Nat.sub_self, List.drop_zero] at hrow
    rw [hrow] at h1
    have o0 := h1.bo.cell 0
    simp only [List.getElem?_toArray, List.getElem?_cons_zero] at o0
    obtain ⟨⟨r1, r2⟩, hr1⟩ : ∃ r, Tr.laidRow kids u C = r := ⟨_, rfl⟩
    rw [hr1] at h1 o0
    have HR1 := Lib.hid hr1
    have HJ := Lib.hid h1
    have HD := Lib.hid hD
    clear h1 hrow hr1 hS
    gi_wp2_with fail
    refine ⟨by simp, .inl ⟨_, _, rfl, run_takeDeferred hK, ?_⟩⟩
    have h5 := HJ.out.own (n := w.heap.size + 4) HL.out.base (Nat.le_refl _) (grownBy_putObj' W D' (.deferred none)) (fun j e => by cases e; exact ⟨by have := HD.out; have := HZ4.out; omega, _, hK, rfl⟩)
    obtain ⟨A', n', c', hG', hb', hk', _⟩ := h5.mid
    refine ⟨_, results_tmp rfl _ _ _, ?_⟩
    rw [HR1.out]
    exact ⟨rfl, A', n', c', hG'.weak (D' := fun g => D g ∨ w.heap.size ≤ g) (fun g hg => hg.elim (fun q => .inl q.1) fun q => .inr (by omega)), hb', hk'⟩
  case stop =>
    rintro D c pre W _ _ h
    exact h.elim
end Go.Proofs.YtdfacbcenogplaaDoor

namespace Go.Proofs.YtdfacbcenogplaaDoor
open Go.RowKit Go.Lib Go.Maps

theorem lead_all : ∀ d, LK d
  | 0 => fun _ _ _ _ _ _ _ _ _ _ _ _ _ _ hl _ _ _ => hl.elim
  | d + 1 => fun t vs w D B P fold bytes fv A n c C u hl hT hG hC => by
    obtain ⟨kind, code, neg, set, lo, hi, kids⟩ := t
    by_cases k5 : kind = 5
    · subst k5
      exact callsIn_wide.1 (lead_cat_in (lead_all d) hl hT hG u hC)
    · by_cases k6 : kind = 6
      · subst k6
        exact lead_alt (lead_all d) hl hT hG u hC
      · exact lead_rest (lead_all d) k5 k6 hl hT hG u hC
theorem wts_mem : ∀ (l : List Tr) (a : Int), 0 ≤ a → Tr.wts a l < 1048576 → ∀ t ∈ l, a + t.wt ≤ Tr.wts a l
  | [], _, _, _, _, h => nomatch h
  | x :: l, a, ha, h, t, ht => by
    rw [Tr.wts] at h ⊢
    have hx := wt_in x
    have h1 := wts_sum l (min (a + x.wt) 1048576) (by omega) h
    rcases List.mem_cons.1 ht with rfl | ht
    · omega
    · have := wts_mem l (min (a + x.wt) 1048576) (by omega) h t ht
      omega
theorem owns_mem (f : Int → Int) : ∀ (l : List Tr) (t : Tr), t ∈ Tr.ownsT f l → ∃ s ∈ l, t = s.ownT f
  | [], t, h => by rw [Tr.ownsT] at h; cases h
  | x :: l, t, h => by
    rw [Tr.ownsT] at h
    rcases List.mem_cons.1 h with rfl | h
    · exact ⟨x, List.mem_cons_self, rfl⟩
    · obtain ⟨s, hs, e⟩ := owns_mem f l t h
      exact ⟨s, List.mem_cons_of_mem _ hs, e⟩
theorem LenLe.weak {f : Nat → List Ins → Nat × List Ins} {n m : Nat} (h : LenLe f n) (hm : n ≤ m) : LenLe f m := fun u C => by
  have := h u C
  omega
theorem lim_own (f : Int → Int) : ∀ (d : Nat) (t : Tr), t.shape d = true → t.wt ≤ 200 → Lim d (t.ownT f)
  | 0, .mk kind code neg set lo hi kids, h, _ => by
    have := (shape_open h).1
    omega
  | d + 1, .mk kind code neg set lo hi kids, h, hw => by
    obtain ⟨h0, h1, h2, h3, h4⟩ := shape_open h
    have hL := (own_len f _ _ h (by omega)).2
    have hws := wts_in kids 0 (Int.le_refl _) (by omega)
    by_cases q : kind = 7 ∧ hi = 0
    · rw [Tr.ownT, if_pos q]
      refine ⟨fun e => absurd e (by decide), fun u C => ?_, by simp, fun t ht => by cases ht⟩
      show (Tr.laid _ u C).2.length ≤ _
      rw [Tr.laid, if_pos rfl]
      simp
    · have e := hL
      rw [Tr.ownT, if_neg q] at e ⊢
      have hkw : Tr.wts 0 kids ≤ 200 := by
        rw [Tr.wt] at hw
        by_cases k5 : kind = 5
        · rw [if_pos k5] at hw; exact hw
        · rw [if_neg k5] at hw
          by_cases k7 : kind = 7
          · rw [if_pos k7] at hw
            have hr := reps_in (h2 k7)
            have hz : hi ≠ 0 := fun z => q ⟨k7, z⟩
            have hm : ∃ m : Int, min (if hi < 0 then min (max 0 lo) 1048576 + 1 else hi) 1048576 = m ∧ 1 ≤ m := by
              by_cases hh : hi < 0
              · rw [if_pos hh]; exact ⟨_, rfl, by omega⟩
              · rw [if_neg hh]; exact ⟨_, rfl, by omega⟩
            obtain ⟨m, hm1, hm2⟩ := hm
            rw [hm1] at hw
            have := Int.mul_le_mul_of_nonneg_left hm2 hws.1
            omega
          · rw [if_neg k7] at hw; omega
      have hlen := (own_lens f kids _ 0 (Int.le_refl _) h4 (by omega)).1
      refine ⟨fun k7 => ?_, e.weak (by omega), by rw [ownsT_len]; omega, fun t ht => ?_⟩
      · have hr := reps_in (h2 k7)
        refine ⟨?_, by rw [if_pos k7]; omega⟩
        rw [ownsT_len]
        subst k7
        simpa [enoughB] using h1
      · obtain ⟨s, hs, rfl⟩ := owns_mem f kids t ht
        have h5 := wts_mem kids 0 (Int.le_refl _) (by omega) s hs
        exact lim_own f d s (shapes_mem.1 h4 s hs) (by omega)
end Go.Proofs.YtdfacbcenogplaaDoor

namespace Go.Proofs.YtdfacbcenogplaaDoor
open Go.RowKit Go.Lib

theorem RgIn.at {w : World} {P : Nat → Prop} {set : List (Int × Int)} {A : Option Addr} {n c : Nat} (h : RgIn w P set (.slice A n c)) (j : Nat) (x y : Int) (hj : set[j]? = some (x, y)) :
    ∃ g, A = some ⟨g, 0, none⟩ ∧ P g ∧ w.cell? ⟨g, j * 2, none⟩ = some (.int .i64 x) ∧ w.cell? ⟨g, j * 2 + 1, none⟩ = some (.int .i64 y) := by
  obtain ⟨A', c', e, _, h⟩ := h
  injection e with e1 e2 e3
  subst e1
  exact h j (x, y) hj
end Go.Proofs.YtdfacbcenogplaaDoor

namespace Go.Proofs.YtdfacbcenogplaaDoor
open Go.RowKit Go.Lib

theorem ret_bool {b c : Bool} (h : b = c) : Ending.returned (.bool b) = Ending.returned (.bool c) := congrArg (fun x => Ending.returned (.bool x)) h
set_option maxRecDepth 100000 in
set_option maxHeartbeats 1000000 in
theorem rx_rising {W : World} {P : Nat → Prop} {set : List (Int × Int)} {A : Option Addr} {n c : Nat} (hn : set.length = n) (h : RgIn W P set (.slice A n c)) :
    Calls Tryd.prog 107 #[.slice A n c] W fun e w' => e = .returned (.bool (riseB 0 set)) ∧ Below W.heap.size W w' := by
  have hl : n ≤ 100000 := by obtain ⟨_, _, _, q, _⟩ := h; rw [← hn]; exact q
  have HR := Lib.hid (fun (w : World) (hb : Below W.heap.size W w) => RgIn.kept (w' := w) (P' := P) h (fun g hg hp => ⟨hp, hb.block g hg⟩))
  have HN := Lib.hid hn
  obtain ⟨V, hV⟩ : ∃ V, riseB 0 set = V := ⟨_, rfl⟩
  rw [hV]
  have HV := Lib.hid hV
  clear h hn hV
  go_enter Tryd.func107, Tryd.ntmps107
  go_wp2_with fail
  go_loopw [3, 8] (fun lv kv wr => ∃ (m : Int) (k : Nat), lv = .int .i64 m ∧ kv = .int .i64 (k : Int) ∧ k ≤ n ∧ riseB m (set.drop k) = V ∧ 0 ≤ m ∧ m ≤ 1114369 ∧ Below W.heap.size W wr) (fun _ kv _ => n - (RowKit.intOf kv).toNat)
  case atStart => exact ⟨0, 0, rfl, rfl, Nat.zero_le _, by rw [List.drop_zero]; exact HV.out, by omega, by omega, Below.refl _ _⟩
  case round =>
    obtain ⟨m, k, rfl, rfl, hk, hR, hm0, hm1, hB⟩ := hrel
    by_cases hlt : k < n
    · have hkl : k < set.length := by rw [HN.out]; exact hlt
      obtain ⟨⟨x, y⟩, hxy⟩ : ∃ r, set[k]? = some r := ⟨_, List.getElem?_eq_getElem hkl⟩
      have hd : set.drop k = (x, y) :: set.drop (k + 1) := by
        rw [List.drop_eq_getElem_cons hkl]
        rw [List.getElem?_eq_getElem hkl] at hxy
        rw [Option.some.inj hxy]
      obtain ⟨g, rfl, _, g0, g1⟩ := (HR.out wr hB).at k x y hxy
      rw [hd, riseB] at hR
      obtain ⟨k1, hk1⟩ : ∃ k1, k + 1 = k1 := ⟨_, rfl⟩
      rw [hk1] at hR
      have hw2 : IntKind.i64.wrap ((k : Int) + 1) = (k1 : Int) := by simp [IntKind.wrap, IntKind.bits, IntKind.signed]; omega
      have hbl : (k : Int) < (n : Int) := by omega
      have hb0 : ¬ (k : Int) < 0 := by omega
      have FIN := Lib.hid (hB.alloc hB.size (.cells #[.int .i64 x, .int .i64 y] 143))
      clear hB hd hxy
      by_cases c1 : x < m
      · rw [if_pos (.inl c1)] at hR
        have HV2 := Lib.hid hR
        clear hR
        go_wp2_with fail
        go_ret
        exact ⟨ret_bool HV2.out, FIN.out⟩
      by_cases c2 : y < x
      · rw [if_pos (.inr (.inl c2))] at hR
        have HV2 := Lib.hid hR
        clear hR
        go_wp2_with fail
        go_ret
        exact ⟨ret_bool HV2.out, FIN.out⟩
      by_cases c3 : 1114367 < y
      · rw [if_pos (.inr (.inr c3))] at hR
        have HV2 := Lib.hid hR
        clear hR
        go_wp2_with fail
        go_ret
        exact ⟨ret_bool HV2.out, FIN.out⟩
      rw [if_neg (by omega)] at hR
      have HV2 := Lib.hid hR
      have hw3 : IntKind.i64.wrap (y + 2) = y + 2 := by simp [IntKind.wrap, IntKind.bits, IntKind.signed]; omega
      clear hR
      go_wp2_with fail
      refine ⟨⟨y + 2, k1, rfl, rfl, by omega, HV2.out, by omega, by omega, FIN.out⟩, ?_⟩
      simp [RowKit.intOf]
      omega
    · obtain rfl : k = n := by omega
      rw [List.drop_of_length_le (by rw [HN.out]; exact Nat.le_refl _)] at hR
      have HV2 := Lib.hid (show true = V from hR)
      have FIN := Lib.hid hB
      clear hR hB
      go_wp2_with fail
      go_ret
      exact ⟨ret_bool HV2.out, FIN.out⟩
theorem rx_enough (kind : Int) (n : Nat) (W : World) : Calls Tryd.prog 105 #[.int .i64 kind, .int .i64 (n : Int)] W fun e w' => e = .returned (.bool (enoughB kind n)) ∧ W = w' := by
  obtain ⟨V, hV⟩ : ∃ V, enoughB kind n = V := ⟨_, rfl⟩
  rw [hV]
  unfold enoughB at hV
  by_cases k5 : kind = 5
  · subst k5
    simp only [true_or, if_true] at hV
    have HV := Lib.hid hV
    clear hV
    go_enter Tryd.func105, Tryd.ntmps105
    go_wp2_with fail
    go_ret
    refine ⟨(ret_bool ?_ : Ending.returned (.bool _) = _), rfl⟩
    rw [← HV.out, Bool.eq_iff_iff]
    simp
    try omega
  have b5 : (kind == 5) = false := by rw [beq_eq_false_iff_ne]; exact k5
  by_cases k6 : kind = 6
  · subst k6
    simp only [or_true, if_true] at hV
    have HV := Lib.hid hV
    clear hV k5
    go_enter Tryd.func105, Tryd.ntmps105
    go_wp2_with fail
    go_ret
    refine ⟨(ret_bool ?_ : Ending.returned (.bool _) = _), rfl⟩
    rw [← HV.out, Bool.eq_iff_iff]
    simp
    try omega
  have b6 : (kind == 6) = false := by rw [beq_eq_false_iff_ne]; exact k6
  rw [if_neg (by omega)] at hV
  by_cases k7 : kind = 7
  · subst k7
    simp only [if_true] at hV
    have HV := Lib.hid hV
    clear hV k5 k6
    go_enter Tryd.func105, Tryd.ntmps105
    go_wp2_with fail
    go_ret
    refine ⟨(ret_bool ?_ : Ending.returned (.bool _) = _), rfl⟩
    rw [← HV.out, Bool.eq_iff_iff]
    simp
    try omega
  have b7 : (kind == 7) = false := by rw [beq_eq_false_iff_ne]; exact k7
  rw [if_neg k7] at hV
  have HV := Lib.hid hV
  clear hV k5 k6 k7
  by_cases h1 : 1 ≤ kind
  · by_cases h2 : kind ≤ 13
    · by_cases h3 : n = 0
      · have HV2 := Lib.hid (show true = V by rw [← HV.out]; simp [h1, h2, h3])
        subst h3
        clear HV
        go_enter Tryd.func105, Tryd.ntmps105
        go_wp2_with fail
        go_ret
        exact ⟨ret_bool HV2.out, rfl⟩
      · have b3 : ((n : Int) == 0) = false := by rw [beq_eq_false_iff_ne]; omega
        have HV2 := Lib.hid (show false = V by rw [← HV.out, decide_eq_false (fun q => h3 q.2.2)])
        clear h3 HV
        go_enter Tryd.func105, Tryd.ntmps105
        go_wp2_with fail
        go_ret
        exact ⟨ret_bool HV2.out, rfl⟩
    · have HV2 := Lib.hid (show false = V by rw [← HV.out, decide_eq_false (fun q => h2 q.2.1)])
      clear HV
      go_enter Tryd.func105, Tryd.ntmps105
      go_wp2_with fail
      go_ret
      exact ⟨ret_bool HV2.out, rfl⟩
  · have HV2 := Lib.hid (show false = V by rw [← HV.out, decide_eq_false (fun q => h1 q.1)])
    clear HV
    go_enter Tryd.func105, Tryd.ntmps105
    go_wp2_with fail
    go_ret
    exact ⟨ret_bool HV2.out, rfl⟩
set_option maxRecDepth 100000 in
set_option maxHeartbeats 4000000 in
/-- shaped, of trees no greater than so. -/
theorem rx_shaped_n : ∀ (N : Nat) (t : Tr) (P : Nat → Prop) (vs : Array Value) (W : World) (deep d : Nat), SizeOf.sizeOf t ≤ N → deep + d = 1024 → TrV W P t vs → Calls Tryd.prog 81 #[.agg vs, .int .i64 (deep : Int)] W fun e w' => e = .returned (.bool (t.shape d)) ∧ Below W.heap.size W w'
  | 0, t, _, _, _, _, _, h, _, _ => by cases t; simp at h
  | N + 1, .mk kind code neg set lo hi kids, P, vs, W, deep, d, hN, hdd, h => by
    obtain ⟨sv, A, cap, rfl, hkl, hR, hI⟩ := h.open
    obtain ⟨A3, c3, rfl⟩ := rx_store_set hR
    have hb0 := (Below.refl W.heap.size W).alloc (Nat.le_refl _) (.cells #[.int .i64 kind, .int .i64 code, .bool neg, .slice A3 set.length c3, .int .i64 lo, .int .i64 hi, .slice A kids.length cap] 58)
    have F0 := Blk.new W #[.int .i64 kind, .int .i64 code, .bool neg, .slice A3 set.length c3, .int .i64 lo, .int .i64 hi, .slice A kids.length cap] 58
    have IH := Lib.hid (fun (t : Tr) (ht : t ∈ kids) (vs : Array Value) (w : World) (deep d : Nat) (hd : deep + d = 1024) (hv : TrV w (fun g => g < W.heap.size ∧ P g) t vs) => rx_shaped_n N t _ vs w deep d (by have := size_kid (kind := kind) (code := code) (neg := neg) (set := set) (lo := lo) (hi := hi) ht; omega) hd hv)
    have HKI := Lib.hid (fun (w : World) (hb : Below W.heap.size W w) => Tr.Ins.keep (w' := w) (P' := fun g => g < W.heap.size ∧ P g) (fun g hg hp => ⟨⟨hg, hp⟩, hb.block g hg⟩) kids A 0 hI)
    have CR := Lib.hid (fun (w : World) (hb : Below W.heap.size W w) => rx_rising (P := P) rfl (RgIn.kept (w' := w) (P' := P) hR (fun g hg hp => ⟨hp, hb.block g hg⟩)))
    have CE := Lib.hid (fun w => rx_enough kind kids.length w)
    have CP := Lib.hid (fun w => rx_repeats lo hi w)
    obtain ⟨W0, hW0⟩ : ∃ W0, W.alloc (.cells #[.int .i64 kind, .int .i64 code, .bool neg, .slice A3 set.length c3, .int .i64 lo, .int .i64 hi, .slice A kids.length cap] 58) = W0 := ⟨_, rfl⟩
    rw [hW0] at hb0 F0
    have HB0 := Lib.hid hb0
    have hs0 := hb0.size
    obtain ⟨⟨c0, c1, c2, c3', c4, c5, c6⟩, _⟩ := F0.seven
    rw [Tr.shape]
    obtain ⟨ml, hml⟩ : ∃ ml, kids.length = ml := ⟨_, rfl⟩
    obtain ⟨sl, hsl⟩ : ∃ sl, set.length = sl := ⟨_, rfl⟩
    rw [hml] at c6 hkl CE
    rw [hsl] at c3' CR
    rw [hml]
    simp only [hml, hsl] at hW0 F0 ⊢
    have HF := Lib.hid F0
    have HML := Lib.hid hml
    obtain ⟨V, hV⟩ : ∃ V, (if d = 0 ∨ enoughB kind ml = false then false else if (kind = 7 ∧ repsF lo hi = false) ∨ (kind = 4 ∧ riseB 0 set = false) then false else Tr.shapes kids (d - 1)) = V := ⟨_, rfl⟩
    rw [hV]
    have HV := Lib.hid hV
    clear h hR hI hb0 F0 hN hml hsl hV
    by_cases hd0 : d = 0
    · have hv := Lib.hid (show V = false by rw [← HV.out, if_pos (.inl hd0)])
      obtain rfl : deep = 1024 := by omega
      clear HV hdd hd0
      go_enter Tryd.func81, Tryd.ntmps81
      go_wp2_with fail
      go_ret
      exact ⟨ret_bool hv.out.symm, HB0.out⟩
    have hdl : (deep : Int) < 1024 := by omega
    obtain ⟨en, hen⟩ : ∃ en, enoughB kind ml = en := ⟨_, rfl⟩
    rw [hen] at HV
    have CE2 := Lib.hid (fun w => hen ▸ CE.out w)
    clear CE hen
    cases en with
    | false =>
      have hv := Lib.hid (show V = false by rw [← HV.out, if_pos (.inr rfl)])
      clear HV hdd hd0
      go_enter Tryd.func81, Tryd.ntmps81
      go_wp2_with fail
      refine (CE2.out _).mono ?_
      rintro e w2 ⟨rfl, rfl⟩
      go_wp2_with fail
      go_ret
      exact ⟨ret_bool hv.out.symm, HB0.out⟩
    | true =>
      have HV1 := Lib.hid (show (if (kind = 7 ∧ repsF lo hi = false) ∨ (kind = 4 ∧ riseB 0 set = false) then false else Tr.shapes kids (d - 1)) = V from (if_neg (by simp [hd0])).symm.trans HV.out)
      clear HV
      have hdd1 : deep + 1 + (d - 1) = 1024 := by omega
      have hw1 : IntKind.i64.wrap ((deep : Int) + 1) = ((deep + 1 : Nat) : Int) := by simp [IntKind.wrap, IntKind.bits, IntKind.signed]; omega
      by_cases k7 : kind = 7 ∧ repsF lo hi = false
      · have hv := Lib.hid (show V = false by rw [← HV1.out, if_pos (.inl k7)])
        obtain ⟨rfl, hrep⟩ := k7
        have CP2 := Lib.hid (fun w => hrep ▸ CP.out w)
        clear HV1 CP hrep
        go_enter Tryd.func81, Tryd.ntmps81
        go_wp2_with fail
        refine (CE2.out _).mono ?_
        rintro e w2 ⟨rfl, rfl⟩
        go_wp2_with fail
        refine (CP2.out _).mono ?_
        rintro e w2 ⟨rfl, rfl⟩
        go_wp2_with fail
        go_ret
        exact ⟨ret_bool hv.out.symm, HB0.out⟩
      by_cases k4 : kind = 4 ∧ riseB 0 set = false
      · have hv := Lib.hid (show V = false by rw [← HV1.out, if_pos (.inr k4)])
        obtain ⟨rfl, hrep⟩ := k4
        have CP2 := Lib.hid (fun w hb => hrep ▸ CR.out w hb)
        clear HV1 CP CR hrep k7
        go_enter Tryd.func81, Tryd.ntmps81
        go_wp2_with fail
        refine (CE2.out _).mono ?_
        rintro e w2 ⟨rfl, rfl⟩
        go_wp2_with fail
        refine (CP2.out _ HB0.out).mono ?_
        rintro e w2 ⟨rfl, hb⟩
        have HB2 := Lib.hid (HB0.out.trans (hb.mono hs0))
        clear hb
        go_wp2_with fail
        go_ret
        exact ⟨ret_bool hv.out.symm, HB2.out⟩
      have hc : (kind = 7 ∧ repsF lo hi = true) ∨ (kind = 4 ∧ riseB 0 set = true) ∨ (kind ≠ 7 ∧ kind ≠ 4) := by
        by_cases q7 : kind = 7
        · exact .inl ⟨q7, by simpa using fun q => k7 ⟨q7, q⟩⟩
        · by_cases q4 : kind = 4
          · exact .inr (.inl ⟨q4, by simpa using fun q => k4 ⟨q4, q⟩⟩)
          · exact .inr (.inr ⟨q7, q4⟩)
      have HV2 := Lib.hid (show Tr.shapes kids (d - 1) = V from (if_neg (fun q => q.elim k7 k4)).symm.trans HV1.out)
      clear HV1 k7 k4 hdd
      rcases hc with ⟨rfl, hrep⟩ | ⟨rfl, hrep⟩ | ⟨q7, q4⟩
      case' inl =>
        have CP2 := Lib.hid (fun w => hrep ▸ CP.out w)
        have HST := Lib.hid (Below.refl W0.heap.size W0)
        clear CP CR hrep
        go_enter Tryd.func81, Tryd.ntmps81
        go_wp2_with fail
        refine (CE2.out _).mono ?_
        rintro e w2 ⟨rfl, rfl⟩
        go_wp2_with fail
        refine (CP2.out _).mono ?_
        rintro e w2 ⟨rfl, rfl⟩
        go_wp2_with fail
      case' inr.inl =>
        have CP2 := Lib.hid (fun w hb => hrep ▸ CR.out w hb)
        clear CP CR hrep
        go_enter Tryd.func81, Tryd.ntmps81
        go_wp2_with fail
        refine (CE2.out _).mono ?_
        rintro e w2 ⟨rfl, rfl⟩
        go_wp2_with fail
        refine (CP2.out _ HB0.out).mono ?_
        rintro e w2 ⟨rfl, hb⟩
        have HST := Lib.hid hb
        obtain ⟨⟨c0, c1, c2, c3', c4, c5, c6⟩, _⟩ := (HF.out.below hb HF.out.lt).seven
        clear hb
        go_wp2_with fail
      case' inr.inr =>
        have b7 : (kind == 7) = false := by rw [beq_eq_false_iff_ne]; exact q7
        have b4 : (kind == 4) = false := by rw [beq_eq_false_iff_ne]; exact q4
        have HST := Lib.hid (Below.refl W0.heap.size W0)
        clear CP CR q7 q4
        go_enter Tryd.func81, Tryd.ntmps81
        go_wp2_with fail
        refine (CE2.out _).mono ?_
        rintro e w2 ⟨rfl, rfl⟩
        go_wp2_with fail
      all_goals
        clear hW0
        go_loopw [43] (fun kv wr => ∃ k : Nat, kv = .int .i64 (k : Int) ∧ k ≤ ml ∧ (∀ u ∈ kids.take k, u.shape (d - 1) = true) ∧ Below W0.heap.size W0 wr) (fun kv _ => ml - (RowKit.intOf kv).toNat)
        case atStart => exact ⟨0, rfl, Nat.zero_le _, by simp, HST.out⟩
        case round =>
          obtain ⟨k, rfl, hk, hU, hB⟩ := hrel
          have HB := Lib.hid hB
          have HU := Lib.hid hU
          by_cases hlt : k < ml
          · have hkl2 : k < kids.length := by rw [HML.out]; exact hlt
            obtain ⟨t, ht⟩ : ∃ t, kids[k] = t := ⟨_, rfl⟩
            have hmem : t ∈ kids := by rw [← ht]; exact List.getElem_mem hkl2
            obtain ⟨g, kind1, code1, neg1, A31, n31, c31, lo1, hi1, A21, n21, c21, hA, ⟨u0, u1, u2, u3, u4, u5, u6⟩, hT⟩ := TrV.at (HKI.out wr (HB0.out.trans (hB.mono hs0))) k t (by rw [List.getElem?_eq_getElem hkl2, ht])
            subst hA
            have CW := Lib.hid (fun (w : World) (hb : Below wr.heap.size wr w) => IH.out t hmem _ w (deep + 1) (d - 1) hdd1 (hT.kept (fun g hg hp => ⟨hp, hb.block g hg⟩)))
            obtain ⟨k1, hk1⟩ : ∃ k1, k + 1 = k1 := ⟨_, rfl⟩
            have HT := Lib.hid (show kids.take k1 = kids.take k ++ [t] ∧ t ∈ kids from ⟨by rw [← hk1, List.take_succ_eq_append_getElem hkl2, ht], hmem⟩)
            have HK1 := Lib.hid hk1
            have hw2 : IntKind.i64.wrap ((k : Int) + 1) = (k1 : Int) := by simp [IntKind.wrap, IntKind.bits, IntKind.signed]; omega
            have hk1l : k1 ≤ ml := by omega
            clear ht hmem hT hkl2 hB hU hk1
            go_wp2_with fail
            refine (CW.out _ ((Below.refl _ _).alloc (Nat.le_refl _) _)).mono ?_
            rintro e w2 ⟨rfl, hb2⟩
            have HB2 := Lib.hid (HB.out.trans ((((Below.refl wr.heap.size wr).alloc (Nat.le_refl _) (.cells #[.int .i64 kind1, .int .i64 code1, .bool neg1, .slice A31 n31 c31, .int .i64 lo1, .int .i64 hi1, .slice A21 n21 c21] 58)).trans (hb2.mono (by simp))).mono HB.out.size))
            obtain ⟨r, hr⟩ : ∃ r, t.shape (d - 1) = r := ⟨_, rfl⟩
            have HR := Lib.hid hr
            rw [hr]
            clear hb2 CW hr
            cases r with
            | true =>
              go_wp2_with fail
              refine ⟨⟨k1, rfl, hk1l, fun u hu => ?_, HB2.out⟩, ?_⟩
              · rw [HT.out.1] at hu
                rcases List.mem_append.1 hu with q | q
                · exact HU.out u q
                · rw [List.mem_singleton.1 q]
                  exact HR.out
              · have := HK1.out
                simp [RowKit.intOf]
                omega
            | false =>
              have hv := Lib.hid (show V = false by
                rw [← HV2.out]
                cases hq : Tr.shapes kids (d - 1) with
                | false => rfl
                | true => exact (shapes_mem.1 hq t HT.out.2).symm.trans HR.out)
              go_wp2_with fail
              go_ret
              exact ⟨ret_bool hv.out.symm, HB0.out.trans (HB2.out.mono hs0)⟩
          · obtain rfl : k = ml := by omega
            have hkn : kids.take k = kids := List.take_of_length_le (by rw [HML.out]; omega)
            rw [hkn] at hU
            have hv := Lib.hid (show V = true by rw [← HV2.out]; exact shapes_mem.2 hU)
            have FIN := Lib.hid (HB0.out.trans (hB.mono hs0))
            clear hkn hB hU HU HB
            go_wp2_with fail
            go_ret
            exact ⟨ret_bool hv.out.symm, FIN.out⟩
theorem rx_shaped {W : World} {P : Nat → Prop} {t : Tr} {vs : Array Value} (h : TrV W P t vs) : Calls Tryd.prog 81 #[.agg vs, .int .i64 0] W fun e w' => e = .returned (.bool (t.shape 1024)) ∧ Below W.heap.size W w' := rx_shaped_n _ t P vs W 0 1024 (Nat.le_refl _) rfl h
set_option maxRecDepth 100000 in
/-- Valid. -/
theorem rx_valid {W : World} {P : Nat → Prop} {t : Tr} {vs : Array Value} (h : TrV W P t vs) : Calls Tryd.prog 44 #[.agg vs] W fun e w' => e = .returned (.bool (t.shape 1024 && decide (t.wt ≤ 200))) ∧ Below W.heap.size W w' := by
  have CS := Lib.hid (fun (w : World) (hb : Below W.heap.size W w) => rx_shaped (h.kept (w' := w) (P' := P) (fun g hg hp => ⟨hp, hb.block g hg⟩)))
  have CW := Lib.hid (fun (w : World) (hb : Below W.heap.size W w) => rx_weight (h.kept (w' := w) (P' := P) (fun g hg hp => ⟨hp, hb.block g hg⟩)))
  obtain ⟨kind, code, neg, A3, n3, c3, lo, hi, A2, n2, c2, rfl⟩ := h.form
  have hb0 := (Below.refl W.heap.size W).alloc (Nat.le_refl _) (.cells #[.int .i64 kind, .int .i64 code, .bool neg, .slice A3 n3 c3, .int .i64 lo, .int .i64 hi, .slice A2 n2 c2] 58)
  have F0 := Blk.new W #[.int .i64 kind, .int .i64 code, .bool neg, .slice A3 n3 c3, .int .i64 lo, .int .i64 hi, .slice A2 n2 c2] 58
  obtain ⟨W0, hW0⟩ : ∃ W0, W.alloc (.cells #[.int .i64 kind, .int .i64 code, .bool neg, .slice A3 n3 c3, .int .i64 lo, .int .i64 hi, .slice A2 n2 c2] 58) = W0 := ⟨_, rfl⟩
  rw [hW0] at hb0 F0
  have HF := Lib.hid F0
  have HB0 := Lib.hid hb0
  have hs0 := hb0.size
  obtain ⟨⟨c0, c1, c2', c3', c4, c5, c6⟩, _⟩ := F0.seven
  obtain ⟨r, hr⟩ : ∃ r, t.shape 1024 = r := ⟨_, rfl⟩
  have CS2 := Lib.hid (fun w hb => hr ▸ CS.out w hb)
  rw [hr]
  clear h F0 hb0 CS hr
  cases r with
  | false =>
    go_enter Tryd.func44, Tryd.ntmps44
    go_wp2_with fail
    clear hW0
    refine (CS2.out _ HB0.out).mono ?_
    rintro e w2 ⟨rfl, hb⟩
    have HB := Lib.hid (HB0.out.trans (hb.mono hs0))
    clear hb
    go_wp2_with fail
    go_ret
    exact ⟨by rfl, HB.out⟩
  | true =>
    go_enter Tryd.func44, Tryd.ntmps44
    go_wp2_with fail
    clear hW0
    refine (CS2.out _ HB0.out).mono ?_
    rintro e w2 ⟨rfl, hb⟩
    have HB := Lib.hid (HB0.out.trans (hb.mono hs0))
    clear c0 c1 c2' c3' c4 c5 c6
    obtain ⟨⟨c0, c1, c2', c3', c4, c5, c6⟩, _⟩ := (HF.out.below hb HF.out.lt).seven
    clear hb
    go_wp2_with fail
    refine (CW.out _ HB.out).mono ?_
    rintro e w3 ⟨rfl, hb⟩
    have HB3 := Lib.hid (HB.out.trans (hb.mono HB.out.size))
    clear hb
    go_wp2_with fail
    go_ret
    exact ⟨by simp, HB3.out⟩
end Go.Proofs.YtdfacbcenogplaaDoor

namespace Go.Proofs.YtdfacbcenogplaaDoor
open Go.RowKit Go.Lib Go.Maps

/-- What 'own' is wanted for. -/
def OwnAny (fold bytes : Bool) : Prop := ∀ (t : Tr) (d : Nat) (P : Nat → Prop) (vs : Array Value) (W : World), t.shape d = true → TrV W P t vs → Calls Tryd.prog 47 #[.agg vs, .agg #[.bool fold, .bool bytes]] W (OwnOut W (t.ownT (chLow fold bytes)))
theorem Grow.prg {w : World} {D : Nat → Prop} {B P : Nat} {fold bytes : Bool} {first : Nat} {A : Option Addr} {n c : Nat} {C : List Ins} (h : Grow w D B P fold bytes (first : Int) A n c C) (hC : C ≠ []) : ∃ cb ccap, PrgIn w w.heap.size P fold bytes cb ccap C first := by
  obtain ⟨x0, hx0⟩ : ∃ x0, C[0]? = some x0 := by
    cases C with
    | nil => exact absurd rfl hC
    | cons x l => exact ⟨x, rfl⟩
  obtain ⟨hnC, g, cs, hA, _, hb, _⟩ := h.at hx0
  obtain ⟨L, hL, hO, hI⟩ := h.row
  subst hnC
  subst hA
  have hl5 : ∀ l ∈ L, l.length = 5 := fun l hl => by
    obtain ⟨j, hj⟩ := List.mem_iff_getElem?.1 hl
    have hjl := (List.getElem?_eq_some_iff.1 hj).1
    obtain ⟨vs', h1', sv', wa', wc', e', _⟩ := hI j C[j] (List.getElem?_eq_getElem (by omega))
    rw [hj] at h1'
    cases h1'
    rw [e']
    rfl
  refine ⟨g, c, h.blk, h.blk.lt, hb.lt, fun i x hx => ?_⟩
  obtain ⟨vs, h1, sv, wa, wc, e, hs, hn, hw⟩ := hI i x hx
  have hc := fun j (hj : j < 5) (v : Value) (hv : vs[j]? = some v) => by
    have h2 := hO.cells rfl (i * 5 + j) v ((flat_get L i j vs hl5 h1 hj).trans hv)
    rw [Addr.add_lit, Nat.zero_add] at h2
    exact h2
  subst e
  exact ⟨sv, wa, wc, hc 0 (by omega) _ rfl, hc 1 (by omega) _ rfl, hc 2 (by omega) _ rfl, hc 3 (by omega) _ rfl, hc 4 (by omega) _ rfl, hs.kept (fun q _ hp => ⟨hp.lt, rfl⟩), hn, fun j m hj => by
    obtain ⟨q, cs', e', _, hq, hcq⟩ := hw j m hj
    exact ⟨q, e', hq.lt, (hq.cell j).trans hcq⟩⟩
theorem insDone_T (w : World) (D : Nat → Prop) : InsT w D insDone [.int .i64 0, .int .i64 0, .bool false, .slice none 0 0, .slice none 0 0] :=
  ⟨.slice none 0 0, none, 0, rfl, RgIn.nil _ _ _ _, by decide, fun j m hj => by cases hj⟩
/-- The last cell of a program is written. -/
theorem Grow.first {w : World} {D : Nat → Prop} {B P : Nat} {fold bytes : Bool} {fv : Int} {A : Option Addr} {n c : Nat} {C : List Ins} (h : Grow w D B P fold bytes fv A n c C) (v : Int) : Grow (w.setCell ⟨P, 3, none⟩ (.int .i64 v)) D B P fold bytes v A n c C := by
  obtain ⟨L, hL, hO, hI⟩ := h.row
  refine ⟨h.blk.set, h.up, L, hL, own_set hO h.blk (by decide), fun i x hx => ?_⟩
  obtain ⟨vs, h1, h2⟩ := hI i x hx
  exact ⟨vs, h1, h2.kept fun g cs t hg ht => Below.heap_setCell w ⟨P, 3, none⟩ _ g (Blk.apart hg h.blk (by rcases ht with rfl | rfl | rfl <;> decide))⟩
/-- What Compile answers of a tree that may be. -/
def CompOut (W : World) (t : Tr) (fold bytes : Bool) (e : Ending) (w' : World) : Prop :=
  ∃ Pb cb ccap, e = .returned (.tuple #[.pointer (some ⟨Pb, 0, none⟩), .int .i64 0]) ∧ PrgIn w' w'.heap.size Pb fold bytes cb ccap ((t.ownT (chLow fold bytes)).laid 0 [insDone]).2 ((t.ownT (chLow fold bytes)).laid 0 [insDone]).1 ∧ Below W.heap.size W w' ∧ W.heap.size ≤ Pb
set_option maxRecDepth 100000 in
set_option maxHeartbeats 4000000 in
theorem nfa_compile {fold bytes : Bool} (HO : OwnAny fold bytes) {W : World} {P : Nat → Prop} {t : Tr} {vs : Array Value} (h : TrV W P t vs) (hs : t.shape 1024 = true) (hw : t.wt ≤ 200) :
    Calls Tryd.prog 25 #[.agg vs, .agg #[.bool fold, .bool bytes]] W (CompOut W t fold bytes) := by
  have CV := Lib.hid (fun (w : World) (hb : Below W.heap.size W w) => rx_valid (h.kept (w' := w) (P' := P) (fun g hg hp => ⟨hp, hb.block g hg⟩)))
  have CO := Lib.hid (fun (w : World) (hb : Below W.heap.size W w) => HO t 1024 P vs w hs (h.kept (w' := w) (P' := P) (fun g hg hp => ⟨hp, hb.block g hg⟩)))
  have hval : (t.shape 1024 && decide (t.wt ≤ 200)) = true := by rw [hs, decide_eq_true hw]; rfl
  have CV := Lib.hid (fun (w : World) (hb : Below W.heap.size W w) => hval ▸ CV.out w hb)
  have HLim := Lib.hid (lim_own (chLow fold bytes) 1024 t hs hw)
  obtain ⟨T, hTd⟩ : ∃ T, t.ownT (chLow fold bytes) = T := ⟨_, rfl⟩
  unfold CompOut
  rw [hTd] at HLim ⊢
  unfold OwnOut at CO
  rw [hTd] at CO
  obtain ⟨kind, code, neg, A3, n3, c3, lo, hi, A2, n2, c2, rfl⟩ := h.form
  have b1 := (Below.refl W.heap.size W).alloc (Nat.le_refl _) (.cells #[.int .i64 kind, .int .i64 code, .bool neg, .slice A3 n3 c3, .int .i64 lo, .int .i64 hi, .slice A2 n2 c2] 58)
  have T1 := Blk.new W #[.int .i64 kind, .int .i64 code, .bool neg, .slice A3 n3 c3, .int .i64 lo, .int .i64 hi, .slice A2 n2 c2] 58
  obtain ⟨W1, hW1⟩ : ∃ W1, W.alloc (.cells #[.int .i64 kind, .int .i64 code, .bool neg, .slice A3 n3 c3, .int .i64 lo, .int .i64 hi, .slice A2 n2 c2] 58) = W1 := ⟨_, rfl⟩
  have z1 : W1.heap.size = W.heap.size + 1 := by rw [← hW1]; simp
  rw [hW1] at b1 T1
  have b2 := b1.alloc b1.size (.cells #[.bool fold, .bool bytes] 28)
  have Y2 := Blk.new W1 #[.bool fold, .bool bytes] 28
  have T2 := T1.alloc (.cells #[.bool fold, .bool bytes] 28)
  obtain ⟨W2, hW2⟩ : ∃ W2, W1.alloc (.cells #[.bool fold, .bool bytes] 28) = W2 := ⟨_, rfl⟩
  have z2 : W2.heap.size = W.heap.size + 2 := by rw [← hW2]; simp [z1]
  rw [hW2] at b2 T2 Y2
  rw [z1] at Y2
  have HB2 := Lib.hid b2
  have HT2 := Lib.hid (And.intro T2 Y2)
  obtain ⟨⟨c0, c1, c2', c3', c4, c5, c6⟩, _⟩ := T2.seven
  have y0 := Y2.cell 0
  have y1 := Y2.cell 1
  simp only [List.getElem?_toArray, List.getElem?_cons_zero, List.getElem?_cons_succ] at y0 y1
  clear h T1 T2 Y2 b1 b2 hval hs hw hTd HO
  go_enter Tryd.func25, Tryd.ntmps25
  go_wp2_with fail
  clear hW1 hW2
  refine (CV.out _ HB2.out).mono ?_
  rintro e W3 ⟨rfl, hb3⟩
  have hz3 := hb3.size
  have B3 := HB2.out.trans (hb3.mono HB2.out.size)
  have T3 := HT2.out.1.below hb3 HT2.out.1.lt
  have Y3 := HT2.out.2.below hb3 HT2.out.2.lt
  have y0 := Y3.cell 0
  have y1 := Y3.cell 1
  simp only [List.getElem?_toArray, List.getElem?_cons_zero, List.getElem?_cons_succ] at y0 y1
  have HB3 := Lib.hid (And.intro B3 (And.intro T3 (And.intro Y3 hz3)))
  clear c0 c1 c2' c3' c4 c5 c6 hb3 T3 Y3 B3 hz3
  go_wp2_with fail
  have G4 : Grow (W3.alloc (.cells #[.bool fold, .bool bytes, .slice none 0 0, .int .i64 0] 69)) (fun _ => True) W3.heap.size W3.heap.size fold bytes 0 none 0 0 [] := ⟨Blk.new W3 _ _, Nat.le_refl _, [], rfl, World.ownsRow_nil _ _ _ _, fun i x hx => by cases hx⟩
  have k4 := TK.alloc W3 (.cells #[.bool fold, .bool bytes, .slice none 0 0, .int .i64 0] 69)
  have b4 := (Below.refl W3.heap.size W3).alloc (Nat.le_refl _) (.cells #[.bool fold, .bool bytes, .slice none 0 0, .int .i64 0] 69)
  obtain ⟨W4, hW4⟩ : ∃ W4, W3.alloc (.cells #[.bool fold, .bool bytes, .slice none 0 0, .int .i64 0] 69) = W4 := ⟨_, rfl⟩
  rw [hW4] at G4 k4 b4 ⊢
  clear hW4 y0 y1
  refine (add_out G4 (by simp) (insDone_T W4 _)).mono ?_
  rintro e W5 ⟨rfl, A5, n5, cp5, G5, b5, k5⟩
  obtain ⟨_, T3, Y3, _⟩ := HB3.out
  have T5 := k5.blk _ _ _ (k4.blk _ _ _ T3 (by decide) (by decide)) (by decide) (by decide)
  have Y5 := k5.blk _ _ _ (k4.blk _ _ _ Y3 (by decide) (by decide)) (by decide) (by decide)
  obtain ⟨⟨c0, c1, c2', c3', c4, c5, c6⟩, _⟩ := T5.seven
  have y0 := Y5.cell 0
  have y1 := Y5.cell 1
  simp only [List.getElem?_toArray, List.getElem?_cons_zero, List.getElem?_cons_succ] at y0 y1
  have B5 : Below W.heap.size W W5 := HB3.out.1.trans ((b4.trans b5).mono HB3.out.1.size)
  have HG5 := Lib.hid (And.intro G5 (And.intro B5 (b4.trans b5)))
  clear T3 Y3 T5 Y5 G4 G5 k4 k5 b4 b5 B5
  simp only [List.length_nil, Int.natCast_zero]
  go_wp2_with fail
  refine (CO.out W5 HG5.out.2.1).mono ?_
  rintro e W6 ⟨us, rfl, hT6, b6⟩
  obtain ⟨e0, e1, e2, E3, m3, d3, e4, e5, E6, m6, d6, rfl⟩ := hT6.form
  have G6 := HG5.out.1.same b6
  have CL := Lib.hid (lead_all 1024 T _ W6 _ _ _ fold bytes 0 _ _ _ _ 0 HLim.out (hT6.kept (P' := SetB W6) fun g _ hp => ⟨hp.2, rfl⟩) G6 (by simp))
  have HB6 := Lib.hid b6
  clear hT6 b6 G6 c0 c1 c2' c3' c4 c5 c6 y0 y1
  go_wp2_with fail
  refine CL.out.mono ?_
  rintro e W7 ⟨rfl, A7, n7, cp7, G7, b7, k7⟩
  have hge := laid_ge T 0 [insDone]
  obtain ⟨⟨r1, r2⟩, hr⟩ : ∃ r, T.laid 0 [insDone] = r := ⟨_, rfl⟩
  have hr' : Tr.laid T 0 ([] ++ [insDone]) = (r1, r2) := hr
  rw [hr'] at G7 ⊢
  simp only [hr] at hge
  have p3 := G7.blk.cell 3
  have g3 := G7.blk.fro 3
  simp only [List.getElem?_toArray, List.getElem?_cons_zero, List.getElem?_cons_succ] at p3
  have G8 := G7.first (r1 : Int)
  have HR := Lib.hid hr
  have HG8 := Lib.hid (And.intro G8 (And.intro b7 hge))
  clear G7 G8 b7 k7 hge hr hr'
  go_wp2_with fail
  obtain ⟨G8, b7, hge⟩ := HG8.out
  obtain ⟨cb, ccap, hP⟩ := G8.prg (fun e => by rw [e] at hge; simp at hge)
  refine bodyPost_ret (results_tmp2 rfl _ _ _) rfl ?_
  rw [HR.out]
  refine ⟨W3.heap.size, cb, ccap, rfl, hP, ?_, HB3.out.1.size⟩
  have hB : Below W.heap.size W W7 := HG5.out.2.1.trans ((HB6.out.mono HG5.out.2.1.size).trans (b7.mono HB3.out.1.size))
  exact hB.setCell (p := ⟨W3.heap.size, 3, none⟩) HB3.out.1.size _
end Go.Proofs.YtdfacbcenogplaaDoor
