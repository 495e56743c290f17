/- Several texts in one (Contracts of layer 9: a node (printed by tools/gen_node.py); Contracts of layer 9: repeats; the row of nodes when its last is repeated, or one more comes; Layer 9: the row of nodes in memory, when its last is repeated, and when one more comes; Contracts of layer 9: a row of nodes (printed by tools/gen_row.py); Contracts of layer 9: a choice, a group (printed by tools/gen_choice.py); Contracts of layer 9: groups within groups; Contracts of layer 9: the deferred closure of Parse). -/
import Derived.Recover
import Derived.Defers
import Derived.Test.YtmfcofiihopbfaaDoorQj3
namespace Go.Proofs.YtmfcofiihopbfaaDoor
open Go.RowKit Go.Lib

/-- Seven values, each of its shape. -/
theorem TrV.form {w : World} {P : Nat → Prop} {t : Tr} {vs : Array Value} (h : TrV w P t vs) : ∃ (kind code : Int) (neg : Bool) (A3 : Option Addr) (n3 c3 : Nat) (lo hi : Int) (A2 : Option Addr) (n2 c2 : Nat), vs = #[.int .i64 kind, .int .i64 code, .bool neg, .slice A3 n3 c3, .int .i64 lo, .int .i64 hi, .slice A2 n2 c2] := by
  obtain ⟨kind, code, neg, set, lo, hi, kids⟩ := t
  obtain ⟨sv, A, cap, rfl, _, hR, _⟩ := h.open
  obtain ⟨A3, c3, rfl⟩ := rx_store_set hR
  exact ⟨_, _, _, _, _, _, _, _, _, _, _, rfl⟩
/-- A node, stored into the result. -/
theorem node_put {W w : World} {pb : Nat} {s : ByteArray} {b : Bool} {j n m : Nat} {t : Tr} {v0 v1 v2 v3 v4 v5 v6 : Value} (HS : Stp pb s b j n W w) (F : Blk w W.heap.size zero7 30) (hr : TrV w (fun c => m ≤ c) t #[v0, v1, v2, v3, v4, v5, v6]) (hm : W.heap.size < m) :
    RxOut (gTr W.heap.size) pb s b n W (.ok t j) (.returned (.agg #[v0, v1, v2, v3, v4, v5, v6])) (put7 w W.heap.size v0 v1 v2 v3 v4 v5 v6) := by
  obtain ⟨z7, o7⟩ := rx_end7 v0 v1 v2 v3 v4 v5 v6 F
  have hne : pb ≠ W.heap.size := fun e => by
    have h1 := HS.prs.row
    rw [e, F.row] at h1
    cases h1
  have hkk : ∀ x, x < w.heap.size → m ≤ x → W.heap.size ≤ x ∧ (put7 w W.heap.size v0 v1 v2 v3 v4 v5 v6).heap[x]? = w.heap[x]? := fun x hx hp => by
    have h1 : x ≠ W.heap.size := by omega
    exact ⟨by omega, o7.block x hx h1 h1⟩
  exact ⟨_, rfl, ⟨_, rfl, hr.kept hkk⟩, HS.aside o7 (Nat.le_refl _) hne⟩
/-- What a group's contract says, where d more may be open. -/
def GrpOk (s : ByteArray) (b : Bool) (d : Nat) : Prop := ∀ (W : World) (pb i n a : Nat), Prs W pb s b i n → n + d = 40 → i ≤ s.size → s.size ≤ 1024 → Env W pb →
  Calls Tryd.prog 27 #[pbP pb, .int .i64 (a : Int)] W (RxOut (gTr W.heap.size) pb s b n W (grpF s b d a i))
def nodeV (grp : Nat → Nat → Rs Tr) (s : ByteArray) (b : Bool) (i c k : Nat) : Rs Tr :=
  if c = 40 then grp i k
  else if c = 91 then brkF s b i k
  else if c = 92 then mrkF s b i k
  else if c = 46 then .ok (trK 3) k
  else if c = 94 then .ok (trK 8) k
  else if c = 36 then .ok (trK 9) k
  else .ok (trC c) k
theorem node_is (grp : Nat → Nat → Rs Tr) (s : ByteArray) (b : Bool) (i : Nat) : nodeF grp s b i = nodeV grp s b i (nextZ s i b).1 (i + (nextZ s i b).2) := rfl
set_option maxRecDepth 100000 in
set_option maxHeartbeats 2000000 in
theorem rx_node {W : World} {pb d : Nat} {s : ByteArray} {b : Bool} {i n : Nat} (hg : GrpOk s b d) (hn : n + d = 40) (h : Prs W pb s b i n) (hi : i < s.size) (hs : s.size ≤ 1024) (hE : Env W pb) :
    Calls Tryd.prog 23 #[pbP pb] W (RxOut (gTr W.heap.size) pb s b n W (nodeF (grpF s b d) s b i)) := by
  have hlt := Blk.lt h
  have F0 := Blk.new W zero7 30
  have S0 := (Stp.refl h).alloc (.cells zero7 30)
  have hE0 := hE.step S0 hlt
  have hsz0 : (W.alloc (.cells zero7 30)).heap.size = W.heap.size + 1 := by simp
  obtain ⟨W0, hW0⟩ : ∃ W0, W.alloc (.cells zero7 30) = W0 := ⟨_, rfl⟩
  rw [hW0] at F0 S0 hE0 hsz0
  have hlt0 : pb < W0.heap.size := by omega
  have hsA : W.heap.size < W0.heap.size := by omega
  have hneB : pb ≠ W.heap.size := by omega
  clear hsz0
  have HS0 := Lib.hid S0
  have HKF := Lib.hid (fun (w : World) (j : Nat) (hS : Stp pb s b j n W0 w) => show Blk w W.heap.size zero7 30 from ⟨(hS.off.block _ F0.lt (Ne.symm hneB) (Ne.symm hneB)).trans F0.row⟩)
  have HE := Lib.hid (fun (w : World) (j : Nat) (hS : Stp pb s b j n W0 w) => hE0.step hS hlt0)
  obtain ⟨_, _, p2, _⟩ := S0.prs.four
  rw [node_is]
  have C1 := Lib.hid (rx_next S0.prs hi hs hE0)
  have hx := nx_in s b i hi
  obtain ⟨C, hC⟩ : ∃ C, (nextZ s i b).1 = C := ⟨_, rfl⟩
  obtain ⟨k, hk⟩ : ∃ k, i + (nextZ s i b).2 = k := ⟨_, rfl⟩
  rw [hC, hk]
  rw [hC, hk] at C1
  have hk2 : k ≤ s.size := by omega
  clear h hE hE0 S0 F0 hC hk hx
  by_cases c40 : C = 40
  · subst c40
    rw [show nodeV (grpF s b d) s b i 40 k = grpF s b d i k from rfl]
    have CX := Lib.hid (fun w (hS : Stp pb s b k n W0 w) => hg w pb k n i hS.prs hn hk2 hs (HE.out _ _ hS))
    obtain ⟨R, hR⟩ : ∃ R, grpF s b d i k = R := ⟨_, rfl⟩
    rw [hR] at CX ⊢
    clear hR hg
    cases R with
    | bad ka er =>
      go_enter Tryd.func23, Tryd.ntmps23
      go_wp2_with fail
      clear hW0 p2
      refine C1.out.mono ?_
      rintro e w2 ⟨rfl, hS⟩
      have S2 := hS
      have HS2 := Lib.hid S2
      have F2 := HKF.out _ _ S2
      clear hS S2 C1
      clear F2
      go_wp2_with fail
      refine (CX.out _ HS2.out).mono ?_
      rintro e w3 ⟨rfl, hO⟩
      have HO := Lib.hid hO
      clear hO CX
      go_wp2_with fail
      exact ⟨rfl, rfl, HS0.out.off.trans (HS2.out.off.trans HO.out)⟩
    | ok t ka =>
      go_enter Tryd.func23, Tryd.ntmps23
      go_wp2_with fail
      clear hW0 p2
      refine C1.out.mono ?_
      rintro e w2 ⟨rfl, hS⟩
      have S2 := hS
      have HS2 := Lib.hid S2
      have F2 := HKF.out _ _ S2
      clear hS S2 C1
      go_wp2_with fail
      refine (CX.out _ HS2.out).mono ?_
      rintro e w3 ⟨v, rfl, ⟨vs, rfl, ht⟩, hS3⟩
      obtain ⟨kind, code, neg, A3, n3, c3, lo, hi', A2, n2, c2, rfl⟩ := ht.form
      have S3 := HS2.out.trans hS3
      have F3 := HKF.out _ _ S3
      have hs2 := HS2.out.off.size
      have FIN := Lib.hid (node_put (HS0.out.trans S3) F3 ht (by omega))
      clear F2 ht hS3 S3 HS2 CX
      have F2 := F3
      clear F3
      obtain ⟨z7, _⟩ := rx_end7 (.int .i64 kind) (.int .i64 code) (.bool neg) (.slice A3 n3 c3) (.int .i64 lo) (.int .i64 hi') (.slice A2 n2 c2) F2
      obtain ⟨⟨y0, y1, y2, y3, y4, y5, y6⟩, _⟩ := z7.seven
      obtain ⟨⟨k0, k1, k2, k3, k4, k5, k6⟩, f0, f1, f2, f3, f4, f5, f6⟩ := F2.seven
      unfold put7 at y0 y1 y2 y3 y4 y5 y6
      clear F2 z7
      go_wp2_with fail
      exact bodyPost_ret (v := .agg #[.int .i64 kind, .int .i64 code, .bool neg, .slice A3 n3 c3, .int .i64 lo, .int .i64 hi', .slice A2 n2 c2]) (by simp [results, Tryd.results23, go_sem, y0, y1, y2, y3, y4, y5, y6]) rfl FIN.out
  by_cases c91 : C = 91
  · subst c91
    rw [show nodeV (grpF s b d) s b i 91 k = brkF s b i k from rfl]
    have CX := Lib.hid (fun w (hS : Stp pb s b k n W0 w) => rx_set (a := i) hS.prs hk2 hs (HE.out _ _ hS))
    obtain ⟨R, hR⟩ : ∃ R, brkF s b i k = R := ⟨_, rfl⟩
    rw [hR] at CX ⊢
    clear hR hg
    cases R with
    | bad ka er =>
      go_enter Tryd.func23, Tryd.ntmps23
      go_wp2_with fail
      clear hW0 p2
      refine C1.out.mono ?_
      rintro e w2 ⟨rfl, hS⟩
      have S2 := hS
      have HS2 := Lib.hid S2
      have F2 := HKF.out _ _ S2
      clear hS S2 C1
      clear F2
      go_wp2_with fail
      refine (CX.out _ HS2.out).mono ?_
      rintro e w3 ⟨rfl, hO⟩
      have HO := Lib.hid hO
      clear hO CX
      go_wp2_with fail
      exact ⟨rfl, rfl, HS0.out.off.trans (HS2.out.off.trans HO.out)⟩
    | ok t ka =>
      go_enter Tryd.func23, Tryd.ntmps23
      go_wp2_with fail
      clear hW0 p2
      refine C1.out.mono ?_
      rintro e w2 ⟨rfl, hS⟩
      have S2 := hS
      have HS2 := Lib.hid S2
      have F2 := HKF.out _ _ S2
      clear hS S2 C1
      go_wp2_with fail
      refine (CX.out _ HS2.out).mono ?_
      rintro e w3 ⟨v, rfl, ⟨vs, rfl, ht⟩, hS3⟩
      obtain ⟨kind, code, neg, A3, n3, c3, lo, hi', A2, n2, c2, rfl⟩ := ht.form
      have S3 := HS2.out.trans hS3
      have F3 := HKF.out _ _ S3
      have hs2 := HS2.out.off.size
      have FIN := Lib.hid (node_put (HS0.out.trans S3) F3 ht (by omega))
      clear F2 ht hS3 S3 HS2 CX
      have F2 := F3
      clear F3
      obtain ⟨z7, _⟩ := rx_end7 (.int .i64 kind) (.int .i64 code) (.bool neg) (.slice A3 n3 c3) (.int .i64 lo) (.int .i64 hi') (.slice A2 n2 c2) F2
      obtain ⟨⟨y0, y1, y2, y3, y4, y5, y6⟩, _⟩ := z7.seven
      obtain ⟨⟨k0, k1, k2, k3, k4, k5, k6⟩, f0, f1, f2, f3, f4, f5, f6⟩ := F2.seven
      unfold put7 at y0 y1 y2 y3 y4 y5 y6
      clear F2 z7
      go_wp2_with fail
      exact bodyPost_ret (v := .agg #[.int .i64 kind, .int .i64 code, .bool neg, .slice A3 n3 c3, .int .i64 lo, .int .i64 hi', .slice A2 n2 c2]) (by simp [results, Tryd.results23, go_sem, y0, y1, y2, y3, y4, y5, y6]) rfl FIN.out
  by_cases c92 : C = 92
  · subst c92
    rw [show nodeV (grpF s b d) s b i 92 k = mrkF s b i k from rfl]
    have CX := Lib.hid (fun w (hS : Stp pb s b k n W0 w) => rx_marked (a := i) hS.prs hk2 hs (HE.out _ _ hS))
    obtain ⟨R, hR⟩ : ∃ R, mrkF s b i k = R := ⟨_, rfl⟩
    rw [hR] at CX ⊢
    clear hR hg
    cases R with
    | bad ka er =>
      go_enter Tryd.func23, Tryd.ntmps23
      go_wp2_with fail
      clear hW0 p2
      refine C1.out.mono ?_
      rintro e w2 ⟨rfl, hS⟩
      have S2 := hS
      have HS2 := Lib.hid S2
      have F2 := HKF.out _ _ S2
      clear hS S2 C1
      clear F2
      go_wp2_with fail
      refine (CX.out _ HS2.out).mono ?_
      rintro e w3 ⟨rfl, hO⟩
      have HO := Lib.hid hO
      clear hO CX
      go_wp2_with fail
      exact ⟨rfl, rfl, HS0.out.off.trans (HS2.out.off.trans HO.out)⟩
    | ok t ka =>
      go_enter Tryd.func23, Tryd.ntmps23
      go_wp2_with fail
      clear hW0 p2
      refine C1.out.mono ?_
      rintro e w2 ⟨rfl, hS⟩
      have S2 := hS
      have HS2 := Lib.hid S2
      have F2 := HKF.out _ _ S2
      clear hS S2 C1
      go_wp2_with fail
      refine (CX.out _ HS2.out).mono ?_
      rintro e w3 ⟨v, rfl, ⟨vs, rfl, ht⟩, hS3⟩
      obtain ⟨kind, code, neg, A3, n3, c3, lo, hi', A2, n2, c2, rfl⟩ := ht.form
      have S3 := HS2.out.trans hS3
      have F3 := HKF.out _ _ S3
      have hs2 := HS2.out.off.size
      have FIN := Lib.hid (node_put (HS0.out.trans S3) F3 ht (by omega))
      clear F2 ht hS3 S3 HS2 CX
      have F2 := F3
      clear F3
      obtain ⟨z7, _⟩ := rx_end7 (.int .i64 kind) (.int .i64 code) (.bool neg) (.slice A3 n3 c3) (.int .i64 lo) (.int .i64 hi') (.slice A2 n2 c2) F2
      obtain ⟨⟨y0, y1, y2, y3, y4, y5, y6⟩, _⟩ := z7.seven
      obtain ⟨⟨k0, k1, k2, k3, k4, k5, k6⟩, f0, f1, f2, f3, f4, f5, f6⟩ := F2.seven
      unfold put7 at y0 y1 y2 y3 y4 y5 y6
      clear F2 z7
      go_wp2_with fail
      exact bodyPost_ret (v := .agg #[.int .i64 kind, .int .i64 code, .bool neg, .slice A3 n3 c3, .int .i64 lo, .int .i64 hi', .slice A2 n2 c2]) (by simp [results, Tryd.results23, go_sem, y0, y1, y2, y3, y4, y5, y6]) rfl FIN.out
  by_cases c46 : C = 46
  · subst c46
    rw [show nodeV (grpF s b d) s b i 46 k = .ok (trK 3) k from rfl]
    go_enter Tryd.func23, Tryd.ntmps23
    go_wp2_with fail
    clear hW0 p2
    refine C1.out.mono ?_
    rintro e w2 ⟨rfl, hS⟩
    have S2 := hS
    have HS2 := Lib.hid S2
    have F2 := HKF.out _ _ S2
    clear hS S2 C1
    have FIN := Lib.hid (leaf_put (kind := 3) (code := 0) (HS0.out.trans HS2.out) F2)
    obtain ⟨z7, _⟩ := rx_end7 (.int .i64 3) (.int .i64 0) (.bool false) (.slice none 0 0) (.int .i64 0) (.int .i64 0) (.slice none 0 0) F2
    obtain ⟨⟨y0, y1, y2, y3, y4, y5, y6⟩, _⟩ := z7.seven
    obtain ⟨⟨k0, k1, k2, k3, k4, k5, k6⟩, f0, f1, f2, f3, f4, f5, f6⟩ := F2.seven
    unfold put7 at y0 y1 y2 y3 y4 y5 y6
    clear F2 z7
    go_wp2_with fail
    exact bodyPost_ret (v := .agg #[.int .i64 3, .int .i64 0, .bool false, .slice none 0 0, .int .i64 0, .int .i64 0, .slice none 0 0]) (by simp [results, Tryd.results23, go_sem, y0, y1, y2, y3, y4, y5, y6]) rfl FIN.out
  by_cases c94 : C = 94
  · subst c94
    rw [show nodeV (grpF s b d) s b i 94 k = .ok (trK 8) k from rfl]
    go_enter Tryd.func23, Tryd.ntmps23
    go_wp2_with fail
    clear hW0 p2
    refine C1.out.mono ?_
    rintro e w2 ⟨rfl, hS⟩
    have S2 := hS
    have HS2 := Lib.hid S2
    have F2 := HKF.out _ _ S2
    clear hS S2 C1
    have FIN := Lib.hid (leaf_put (kind := 8) (code := 0) (HS0.out.trans HS2.out) F2)
    obtain ⟨z7, _⟩ := rx_end7 (.int .i64 8) (.int .i64 0) (.bool false) (.slice none 0 0) (.int .i64 0) (.int .i64 0) (.slice none 0 0) F2
    obtain ⟨⟨y0, y1, y2, y3, y4, y5, y6⟩, _⟩ := z7.seven
    obtain ⟨⟨k0, k1, k2, k3, k4, k5, k6⟩, f0, f1, f2, f3, f4, f5, f6⟩ := F2.seven
    unfold put7 at y0 y1 y2 y3 y4 y5 y6
    clear F2 z7
    go_wp2_with fail
    exact bodyPost_ret (v := .agg #[.int .i64 8, .int .i64 0, .bool false, .slice none 0 0, .int .i64 0, .int .i64 0, .slice none 0 0]) (by simp [results, Tryd.results23, go_sem, y0, y1, y2, y3, y4, y5, y6]) rfl FIN.out
  by_cases c36 : C = 36
  · subst c36
    rw [show nodeV (grpF s b d) s b i 36 k = .ok (trK 9) k from rfl]
    go_enter Tryd.func23, Tryd.ntmps23
    go_wp2_with fail
    clear hW0 p2
    refine C1.out.mono ?_
    rintro e w2 ⟨rfl, hS⟩
    have S2 := hS
    have HS2 := Lib.hid S2
    have F2 := HKF.out _ _ S2
    clear hS S2 C1
    have FIN := Lib.hid (leaf_put (kind := 9) (code := 0) (HS0.out.trans HS2.out) F2)
    obtain ⟨z7, _⟩ := rx_end7 (.int .i64 9) (.int .i64 0) (.bool false) (.slice none 0 0) (.int .i64 0) (.int .i64 0) (.slice none 0 0) F2
    obtain ⟨⟨y0, y1, y2, y3, y4, y5, y6⟩, _⟩ := z7.seven
    obtain ⟨⟨k0, k1, k2, k3, k4, k5, k6⟩, f0, f1, f2, f3, f4, f5, f6⟩ := F2.seven
    unfold put7 at y0 y1 y2 y3 y4 y5 y6
    clear F2 z7
    go_wp2_with fail
    exact bodyPost_ret (v := .agg #[.int .i64 9, .int .i64 0, .bool false, .slice none 0 0, .int .i64 0, .int .i64 0, .slice none 0 0]) (by simp [results, Tryd.results23, go_sem, y0, y1, y2, y3, y4, y5, y6]) rfl FIN.out
  have hv : nodeV (grpF s b d) s b i C k = .ok (trC C) k := by
    unfold nodeV; rw [if_neg c40, if_neg c91, if_neg c92, if_neg c46, if_neg c94, if_neg c36]
  rw [hv]
  have b40 : ((C : Int) == 40) = false := by rw [beq_eq_false_iff_ne]; omega
  have b91 : ((C : Int) == 91) = false := by rw [beq_eq_false_iff_ne]; omega
  have b92 : ((C : Int) == 92) = false := by rw [beq_eq_false_iff_ne]; omega
  have b46 : ((C : Int) == 46) = false := by rw [beq_eq_false_iff_ne]; omega
  have b94 : ((C : Int) == 94) = false := by rw [beq_eq_false_iff_ne]; omega
  have b36 : ((C : Int) == 36) = false := by rw [beq_eq_false_iff_ne]; omega
  clear hv c40 c91 c92 c46 c94 c36
  go_enter Tryd.func23, Tryd.ntmps23
  go_wp2_with fail
  clear hW0 p2
  refine C1.out.mono ?_
  rintro e w2 ⟨rfl, hS⟩
  have S2 := hS
  have HS2 := Lib.hid S2
  have F2 := HKF.out _ _ S2
  clear hS S2 C1
  have FIN := Lib.hid (leaf_put (kind := 2) (code := (C : Int)) (HS0.out.trans HS2.out) F2)
  obtain ⟨z7, _⟩ := rx_end7 (.int .i64 2) (.int .i64 (C : Int)) (.bool false) (.slice none 0 0) (.int .i64 0) (.int .i64 0) (.slice none 0 0) F2
  obtain ⟨⟨y0, y1, y2, y3, y4, y5, y6⟩, _⟩ := z7.seven
  obtain ⟨⟨k0, k1, k2, k3, k4, k5, k6⟩, f0, f1, f2, f3, f4, f5, f6⟩ := F2.seven
  unfold put7 at y0 y1 y2 y3 y4 y5 y6
  clear F2 z7
  go_wp2_with fail
  exact bodyPost_ret (v := .agg #[.int .i64 2, .int .i64 (C : Int), .bool false, .slice none 0 0, .int .i64 0, .int .i64 0, .slice none 0 0]) (by simp [results, Tryd.results23, go_sem, y0, y1, y2, y3, y4, y5, y6]) rfl FIN.out
end Go.Proofs.YtmfcofiihopbfaaDoor

namespace Go.Proofs.YtmfcofiihopbfaaDoor
open Go.RowKit Go.Lib

/-- Seven stores into a row. -/
abbrev put7o (W : World) (K o : Nat) (v0 v1 v2 v3 v4 v5 v6 : Value) : World := ((((((W.setCell ⟨K, o, none⟩ v0).setCell ⟨K, o + 1, none⟩ v1).setCell ⟨K, o + 2, none⟩ v2).setCell ⟨K, o + 3, none⟩ v3).setCell ⟨K, o + 4, none⟩ v4).setCell ⟨K, o + 5, none⟩ v5).setCell ⟨K, o + 6, none⟩ v6
/-- What 'repeat' leaves. -/
def RepM (pb : Nat) (s : ByteArray) (b : Bool) (i n : Nat) (W : World) (K o : Nat) (vs : Array Value) (r : Option (Rs (Int × Int))) (e : Ending) (w' : World) : Prop :=
  match r with
  | none => e = .returned (.bool false) ∧ Stp pb s b i n W w'
  | some (.bad k er) => e = flt k er ∧ Off2 pb pb W w'
  | some (.ok r k) => e = .returned (.bool true) ∧ ∃ W1, Stp pb s b k n W W1 ∧ w' = (put7o W1 K o (.int .i64 7) (.int .i64 0) (.bool false) (.slice none 0 0) (.int .i64 r.1) (.int .i64 r.2) (.slice (some ⟨W1.heap.size, 0, none⟩) 1 1)).alloc (.cells vs 30)
set_option maxRecDepth 100000 in
set_option maxHeartbeats 2000000 in
theorem rx_repeat {W : World} {pb K o : Nat} {s : ByteArray} {b : Bool} {i n : Nat} (h : Prs W pb s b i n) (hi : i ≤ s.size) (hs : s.size ≤ 1024) {cur : Array Value} (hK : W.heap[K]? = some (.cells cur 30 (0, 0))) (hne : K ≠ pb)
    {kind code : Int} {neg : Bool} {A3 : Option Addr} {n3 c3 : Nat} {lo hi' : Int} {A2 : Option Addr} {n2 c2 : Nat}
    (h0 : cur[o]? = some (.int .i64 kind)) (h1 : cur[o + 1]? = some (.int .i64 code)) (h2 : cur[o + 2]? = some (.bool neg)) (h3 : cur[o + 3]? = some (.slice A3 n3 c3)) (h4 : cur[o + 4]? = some (.int .i64 lo)) (h5 : cur[o + 5]? = some (.int .i64 hi')) (h6 : cur[o + 6]? = some (.slice A2 n2 c2)) :
    Calls Tryd.prog 22 #[pbP pb, .pointer (some ⟨K, o, none⟩)] W (RepM pb s b i n W K o #[.int .i64 kind, .int .i64 code, .bool neg, .slice A3 n3 c3, .int .i64 lo, .int .i64 hi', .slice A2 n2 c2] (repF s i)) := by
  have hlt := Blk.lt h
  have KC := Lib.hid (fun (w : World) (j : Nat) (hS : Stp pb s b j n W w) => show (w.cell? ⟨K, o, none⟩ = some (.int .i64 kind) ∧ w.cell? ⟨K, o + 1, none⟩ = some (.int .i64 code) ∧ w.cell? ⟨K, o + 2, none⟩ = some (.bool neg) ∧ w.cell? ⟨K, o + 3, none⟩ = some (.slice A3 n3 c3) ∧ w.cell? ⟨K, o + 4, none⟩ = some (.int .i64 lo) ∧ w.cell? ⟨K, o + 5, none⟩ = some (.int .i64 hi') ∧ w.cell? ⟨K, o + 6, none⟩ = some (.slice A2 n2 c2)) ∧ (∀ x, w.frozen? ⟨K, x, none⟩ = false) ∧ K < w.heap.size from by
    have hw : w.heap[K]? = some (.cells cur 30 (0, 0)) := (hS.off.block K (Array.getElem?_eq_some_iff.1 hK).1 hne hne).trans hK
    exact ⟨⟨(cell_of_row w _ _ _ _ _ hw).trans h0, (cell_of_row w _ _ _ _ _ hw).trans h1, (cell_of_row w _ _ _ _ _ hw).trans h2, (cell_of_row w _ _ _ _ _ hw).trans h3, (cell_of_row w _ _ _ _ _ hw).trans h4, (cell_of_row w _ _ _ _ _ hw).trans h5, (cell_of_row w _ _ _ _ _ hw).trans h6⟩, fun x => frozen_of_row w _ _ _ _ hw, (Array.getElem?_eq_some_iff.1 hw).1⟩)
  have hst0 := Stp.refl h
  have HS0 := Lib.hid hst0
  clear hK h0 h1 h2 h3 h4 h5 h6 hst0
  obtain ⟨p1, e1⟩ : ∃ p, st1 s i 42 = p := ⟨_, rfl⟩
  obtain ⟨p2, e2⟩ : ∃ p, st1 s i 43 = p := ⟨_, rfl⟩
  obtain ⟨p3, e3⟩ : ∃ p, st1 s i 63 = p := ⟨_, rfl⟩
  have C1 := Lib.hid (rx_take1 h hi hs 42 p1 e1)
  have C2 := Lib.hid (fun w (hS : Stp pb s b i n W w) => rx_take1 hS.prs hi hs 43 p2 e2)
  have C3 := Lib.hid (fun w (hS : Stp pb s b i n W w) => rx_take1 hS.prs hi hs 63 p3 e3)
  have C4 := Lib.hid (fun w (hS : Stp pb s b i n W w) => rx_interval hS.prs hi hs)
  unfold repF
  rw [e1, e2, e3]
  clear h e1 e2 e3
  cases p1 with
  | true =>
    simp only [if_true]
    go_enter Tryd.func22, Tryd.ntmps22
    go_wp2_with fail
    refine C1.out.mono ?_
    rintro e w1 ⟨rfl, hS⟩
    have T1 := Lib.hid (HS0.out.trans hS)
    clear hS C1
    have hS : Stp pb s b (i + 1) n W w1 := T1.out
    obtain ⟨⟨c0, c1, c2', c3', c4, c5, c6⟩, fz, hkl⟩ := KC.out _ _ hS
    have f0 := fz (o)
    have f1 := fz (o + 1)
    have f2 := fz (o + 2)
    have f3 := fz (o + 3)
    have f4 := fz (o + 4)
    have f5 := fz (o + 5)
    have f6 := fz (o + 6)
    have hkne : K ≠ w1.heap.size := by omega
    have HF := Lib.hid hS
    clear hS fz
    go_wp2_with fail
    go_ret
    exact ⟨rfl, w1, HF.out, rfl⟩
  | false =>
    simp only [Bool.false_eq_true, if_false]
    cases p2 with
    | true =>
      simp only [if_true]
      go_enter Tryd.func22, Tryd.ntmps22
      go_wp2_with fail
      refine C1.out.mono ?_
      rintro e w1 ⟨rfl, hS⟩
      have T1 := Lib.hid (HS0.out.trans hS)
      clear hS C1
      go_wp2_with fail
      refine (C2.out _ T1.out).mono ?_
      rintro e w2 ⟨rfl, hS⟩
      have T2 := Lib.hid (T1.out.trans hS)
      clear hS C2
      have hS : Stp pb s b (i + 1) n W w2 := T2.out
      obtain ⟨⟨c0, c1, c2', c3', c4, c5, c6⟩, fz, hkl⟩ := KC.out _ _ hS
      have f0 := fz (o)
      have f1 := fz (o + 1)
      have f2 := fz (o + 2)
      have f3 := fz (o + 3)
      have f4 := fz (o + 4)
      have f5 := fz (o + 5)
      have f6 := fz (o + 6)
      have hkne : K ≠ w2.heap.size := by omega
      have HF := Lib.hid hS
      clear hS fz
      go_wp2_with fail
      go_ret
      exact ⟨rfl, w2, HF.out, rfl⟩
    | false =>
      simp only [Bool.false_eq_true, if_false]
      cases p3 with
      | true =>
        simp only [if_true]
        go_enter Tryd.func22, Tryd.ntmps22
        go_wp2_with fail
        refine C1.out.mono ?_
        rintro e w1 ⟨rfl, hS⟩
        have T1 := Lib.hid (HS0.out.trans hS)
        clear hS C1
        go_wp2_with fail
        refine (C2.out _ T1.out).mono ?_
        rintro e w2 ⟨rfl, hS⟩
        have T2 := Lib.hid (T1.out.trans hS)
        clear hS C2
        go_wp2_with fail
        refine (C3.out _ T2.out).mono ?_
        rintro e w3 ⟨rfl, hS⟩
        have T3 := Lib.hid (T2.out.trans hS)
        clear hS C3
        have hS : Stp pb s b (i + 1) n W w3 := T3.out
        obtain ⟨⟨c0, c1, c2', c3', c4, c5, c6⟩, fz, hkl⟩ := KC.out _ _ hS
        have f0 := fz (o)
        have f1 := fz (o + 1)
        have f2 := fz (o + 2)
        have f3 := fz (o + 3)
        have f4 := fz (o + 4)
        have f5 := fz (o + 5)
        have f6 := fz (o + 6)
        have hkne : K ≠ w3.heap.size := by omega
        have HF := Lib.hid hS
        clear hS fz
        go_wp2_with fail
        go_ret
        exact ⟨rfl, w3, HF.out, rfl⟩
      | false =>
        simp only [Bool.false_eq_true, if_false]
        obtain ⟨R, hR⟩ : ∃ R, ivlF s i = R := ⟨_, rfl⟩
        unfold IvlOut at C4
        rw [hR] at C4 ⊢
        clear hR
        match R, C4 with
        | none, C4 =>
          go_enter Tryd.func22, Tryd.ntmps22
          go_wp2_with fail
          refine C1.out.mono ?_
          rintro e w1 ⟨rfl, hS⟩
          have T1 := Lib.hid (HS0.out.trans hS)
          clear hS C1
          go_wp2_with fail
          refine (C2.out _ T1.out).mono ?_
          rintro e w2 ⟨rfl, hS⟩
          have T2 := Lib.hid (T1.out.trans hS)
          clear hS C2
          go_wp2_with fail
          refine (C3.out _ T2.out).mono ?_
          rintro e w3 ⟨rfl, hS⟩
          have T3 := Lib.hid (T2.out.trans hS)
          clear hS C3
          go_wp2_with fail
          refine (show Calls _ _ _ _ _ from C4.out _ T3.out).mono ?_
          rintro e w4 ⟨rfl, hS⟩
          have T4 := Lib.hid (T3.out.trans hS)
          clear hS C4
          go_wp2_with fail
          go_ret
          exact ⟨rfl, T4.out⟩
        | some (.bad k er), C4 =>
          go_enter Tryd.func22, Tryd.ntmps22
          go_wp2_with fail
          refine C1.out.mono ?_
          rintro e w1 ⟨rfl, hS⟩
          have T1 := Lib.hid (HS0.out.trans hS)
          clear hS C1
          go_wp2_with fail
          refine (C2.out _ T1.out).mono ?_
          rintro e w2 ⟨rfl, hS⟩
          have T2 := Lib.hid (T1.out.trans hS)
          clear hS C2
          go_wp2_with fail
          refine (C3.out _ T2.out).mono ?_
          rintro e w3 ⟨rfl, hS⟩
          have T3 := Lib.hid (T2.out.trans hS)
          clear hS C3
          go_wp2_with fail
          refine (show Calls _ _ _ _ _ from C4.out _ T3.out).mono ?_
          rintro e w4 ⟨rfl, hO⟩
          have HO := Lib.hid hO
          clear hO C4
          go_wp2_with fail
          exact ⟨rfl, rfl, T3.out.off.trans HO.out⟩
        | some (.ok r k), C4 =>
          go_enter Tryd.func22, Tryd.ntmps22
          go_wp2_with fail
          refine C1.out.mono ?_
          rintro e w1 ⟨rfl, hS⟩
          have T1 := Lib.hid (HS0.out.trans hS)
          clear hS C1
          go_wp2_with fail
          refine (C2.out _ T1.out).mono ?_
          rintro e w2 ⟨rfl, hS⟩
          have T2 := Lib.hid (T1.out.trans hS)
          clear hS C2
          go_wp2_with fail
          refine (C3.out _ T2.out).mono ?_
          rintro e w3 ⟨rfl, hS⟩
          have T3 := Lib.hid (T2.out.trans hS)
          clear hS C3
          go_wp2_with fail
          refine (show Calls _ _ _ _ _ from C4.out _ T3.out).mono ?_
          rintro e w4 ⟨rfl, hS⟩
          have T4 := Lib.hid (T3.out.trans hS)
          clear hS C4
          have hS : Stp pb s b k n W w4 := T4.out
          obtain ⟨⟨c0, c1, c2', c3', c4, c5, c6⟩, fz, hkl⟩ := KC.out _ _ hS
          have f0 := fz (o)
          have f1 := fz (o + 1)
          have f2 := fz (o + 2)
          have f3 := fz (o + 3)
          have f4 := fz (o + 4)
          have f5 := fz (o + 5)
          have f6 := fz (o + 6)
          have hkne : K ≠ w4.heap.size := by omega
          have HF := Lib.hid hS
          clear hS fz
          go_wp2_with fail
          go_ret
          exact ⟨rfl, w4, HF.out, rfl⟩
end Go.Proofs.YtmfcofiihopbfaaDoor

namespace Go.Proofs.YtmfcofiihopbfaaDoor
open Go.RowKit Go.Lib

theorem Kds.last {w : World} {n : Nat} {v : Value} {ks : List Tr} {t : Tr} (h : Kds w n v (ks ++ [t])) :
    ∃ (K cap : Nat) (cur : Array Value) (kind code : Int) (neg : Bool) (A3 : Option Addr) (n3 c3 : Nat) (lo hi : Int) (A2 : Option Addr) (n2 c2 : Nat), v = .slice (some ⟨K, 0, none⟩) (ks.length + 1) cap ∧ n ≤ K ∧ w.heap[K]? = some (.cells cur 30 (0, 0)) ∧
      (cur[ks.length * 7]? = some (.int .i64 kind) ∧ cur[ks.length * 7 + 1]? = some (.int .i64 code) ∧ cur[ks.length * 7 + 2]? = some (.bool neg) ∧ cur[ks.length * 7 + 3]? = some (.slice A3 n3 c3) ∧ cur[ks.length * 7 + 4]? = some (.int .i64 lo) ∧ cur[ks.length * 7 + 5]? = some (.int .i64 hi) ∧ cur[ks.length * 7 + 6]? = some (.slice A2 n2 c2)) ∧
      TrV w (fun g => n ≤ g ∧ g ≠ K) t #[.int .i64 kind, .int .i64 code, .bool neg, .slice A3 n3 c3, .int .i64 lo, .int .i64 hi, .slice A2 n2 c2] := by
  obtain ⟨xs, ho, hx⟩ := h
  have ht := hx ks.length t (by simp)
  rw [List.length_append, List.length_cons, List.length_nil, Nat.zero_add] at ho
  rcases ho.2 with ⟨_, e⟩ | ⟨K, cap, cur, rfl, hK, hrow, h1, h2, h3, h4⟩
  · omega
  have ht2 : t.In w (fun g => n ≤ g ∧ g ≠ K) (rdL xs (ks.length * 7)) := ht.kept (fun g _ hp => ⟨⟨hp.1, fun e => hp.2 (by rw [e]; rfl)⟩, rfl⟩)
  have hcx : ∀ i, i < 7 → rdL xs (ks.length * 7) i = cur[ks.length * 7 + i]? := fun i hi => by
    rw [rdL, ← h4, List.getElem?_take_of_lt (by omega), Array.getElem?_toList]
  obtain ⟨kind, code, neg, set, lo, hi, kids⟩ := t
  rw [Tr.In] at ht2
  obtain ⟨sv, A2, c2, t0, t1, t2, t3, t4, t5, t6, hn, hR, hJ⟩ := ht2
  obtain ⟨A3, c3, rfl⟩ := rx_store_set hR
  rw [hcx _ (by omega)] at t0 t1 t2 t3 t4 t5 t6
  exact ⟨K, cap, cur, kind, code, neg, A3, _, c3, lo, hi, A2, _, c2, rfl, hK, hrow, ⟨t0, t1, t2, t3, t4, t5, t6⟩, TrV.mk hn hR hJ⟩
theorem set7_at (xs : List Value) (o : Nat) (a0 a1 a2 a3 a4 a5 a6 : Value) (h : o + 7 ≤ xs.length) : ∀ i, i < 7 → (((((((xs.set o a0).set (o + 1) a1).set (o + 2) a2).set (o + 3) a3).set (o + 4) a4).set (o + 5) a5).set (o + 6) a6)[o + i]? = [a0, a1, a2, a3, a4, a5, a6][i]? := fun i hi => by
  have : i = 0 ∨ i = 1 ∨ i = 2 ∨ i = 3 ∨ i = 4 ∨ i = 5 ∨ i = 6 := by omega
  have h0 : o < xs.length := by omega
  have h1 : o + 1 < xs.length := by omega
  have h2 : o + 2 < xs.length := by omega
  have h3 : o + 3 < xs.length := by omega
  have h4 : o + 4 < xs.length := by omega
  have h5 : o + 5 < xs.length := by omega
  have h6 : o + 6 < xs.length := by omega
  rcases this with rfl | rfl | rfl | rfl | rfl | rfl | rfl <;> simp [*]
theorem set7_out (xs : List Value) (o : Nat) (a0 a1 a2 a3 a4 a5 a6 : Value) (i : Nat) (h : i < o) : (((((((xs.set o a0).set (o + 1) a1).set (o + 2) a2).set (o + 3) a3).set (o + 4) a4).set (o + 5) a5).set (o + 6) a6)[i]? = xs[i]? := by
  rw [List.getElem?_set_ne (by omega), List.getElem?_set_ne (by omega), List.getElem?_set_ne (by omega), List.getElem?_set_ne (by omega), List.getElem?_set_ne (by omega), List.getElem?_set_ne (by omega), List.getElem?_set_ne (by omega)]
theorem off_put7o (W : World) (K o : Nat) (v0 v1 v2 v3 v4 v5 v6 : Value) : Off2 K K W (put7o W K o v0 v1 v2 v3 v4 v5 v6) :=
  ((((((Off2.setCell W K K o v0).trans (Off2.setCell _ K K (o + 1) v1)).trans (Off2.setCell _ K K (o + 2) v2)).trans (Off2.setCell _ K K (o + 3) v3)).trans (Off2.setCell _ K K (o + 4) v4)).trans (Off2.setCell _ K K (o + 5) v5)).trans (Off2.setCell _ K K (o + 6) v6)
/-- The last node is repeated. -/
theorem Kds.rep {w1 : World} {n K cap : Nat} {ks : List Tr} {t : Tr} {vs : Array Value} {lo hi : Int} (h : Kds w1 n (.slice (some ⟨K, 0, none⟩) (ks.length + 1) cap) (ks ++ [t])) (_hK : n ≤ K) (ht : TrV w1 (fun g => n ≤ g ∧ g ≠ K) t vs) (hn : n ≤ w1.heap.size) (hKs : K < w1.heap.size) :
    Kds ((put7o w1 K (ks.length * 7) (.int .i64 7) (.int .i64 0) (.bool false) (.slice none 0 0) (.int .i64 lo) (.int .i64 hi) (.slice (some ⟨w1.heap.size, 0, none⟩) 1 1)).alloc (.cells vs 30)) n (.slice (some ⟨K, 0, none⟩) (ks.length + 1) cap) (ks ++ [trR lo hi t]) := by
  obtain ⟨xs, ho, hx⟩ := h
  have oF := off_put7o w1 K (ks.length * 7) (.int .i64 7) (.int .i64 0) (.bool false) (.slice none 0 0) (.int .i64 lo) (.int .i64 hi) (.slice (some ⟨w1.heap.size, 0, none⟩) 1 1)
  have hz : (put7o w1 K (ks.length * 7) (.int .i64 7) (.int .i64 0) (.bool false) (.slice none 0 0) (.int .i64 lo) (.int .i64 hi) (.slice (some ⟨w1.heap.size, 0, none⟩) 1 1)).heap.size = w1.heap.size := by simp
  rw [List.length_append, List.length_cons, List.length_nil, Nat.zero_add] at ho
  have hl := ho.1
  have s0 := (ho.stored (ks.length * 7) (.int .i64 7)).1
  have s1 := (s0.stored (ks.length * 7 + 1) (.int .i64 0)).1
  have s2 := (s1.stored (ks.length * 7 + 2) (.bool false)).1
  have s3 := (s2.stored (ks.length * 7 + 3) (.slice none 0 0)).1
  have s4 := (s3.stored (ks.length * 7 + 4) (.int .i64 lo)).1
  have s5 := (s4.stored (ks.length * 7 + 5) (.int .i64 hi)).1
  have s6 := (s5.stored (ks.length * 7 + 6) (.slice (some ⟨w1.heap.size, 0, none⟩) 1 1)).1
  have s7 := s6.alloc (.cells vs 30)
  have hB := Blk.new (put7o w1 K (ks.length * 7) (.int .i64 7) (.int .i64 0) (.bool false) (.slice none 0 0) (.int .i64 lo) (.int .i64 hi) (.slice (some ⟨w1.heap.size, 0, none⟩) 1 1)) vs 30
  rw [hz] at hB
  have hkeep : ∀ g, g < w1.heap.size → g ≠ K → ((put7o w1 K (ks.length * 7) (.int .i64 7) (.int .i64 0) (.bool false) (.slice none 0 0) (.int .i64 lo) (.int .i64 hi) (.slice (some ⟨w1.heap.size, 0, none⟩) 1 1)).alloc (.cells vs 30)).heap[g]? = w1.heap[g]? := fun g hg hne =>
    (Below.heap_alloc _ _ g (by rw [hz]; exact hg)).trans (oF.block g hg hne hne)
  refine ⟨_, by rw [List.length_append, List.length_cons, List.length_nil, Nat.zero_add]; exact s7, fun j u hj => ?_⟩
  rcases Nat.lt_or_ge j ks.length with hlt | hge
  · rw [List.getElem?_append_left hlt] at hj
    have := hx j u (by rw [List.getElem?_append_left hlt]; exact hj)
    refine (this.kept (fun g hg hp => ⟨hp, hkeep g hg (fun e => hp.2 (by rw [e]; rfl))⟩)).congr fun i hi => ?_
    exact set7_out xs (ks.length * 7) _ _ _ _ _ _ _ (j * 7 + i) (by omega)
  · have hjl : j = ks.length := by
      have := (List.getElem?_eq_some_iff.1 hj).1
      simp at this
      omega
    subst hjl
    have hu : trR lo hi t = u := by simpa using hj
    subst hu
    have g7 := set7_at xs (ks.length * 7) (.int .i64 7) (.int .i64 0) (.bool false) (.slice none 0 0) (.int .i64 lo) (.int .i64 hi) (.slice (some ⟨w1.heap.size, 0, none⟩) 1 1) (by omega)
    unfold trR
    rw [Tr.In]
    refine ⟨.slice none 0 0, some ⟨w1.heap.size, 0, none⟩, 1, g7 0 (by omega), g7 1 (by omega), g7 2 (by omega), g7 3 (by omega), g7 4 (by omega), g7 5 (by omega), g7 6 (by omega), by simp, RgIn.nil _ _ none 0, ?_⟩
    rw [Tr.Ins]
    refine ⟨⟨w1.heap.size, rfl, ⟨hn, fun e => by have h2 : w1.heap.size = K := Option.some.inj e; omega⟩, ?_⟩, Tr.Ins.nil _ _ _ _⟩
    refine ((ht.2).kept (fun g hg hp => ⟨⟨hp.1, fun e => hp.2 (by cases e; rfl)⟩, hkeep g hg hp.2⟩)).congr fun i hi => ?_
    rw [Nat.zero_add]
    exact hB.cell i
/-- One more node. -/
theorem Kds.snoc {w X w2 : World} {n m : Nat} {v v' : Value} {ts : List Tr} {t : Tr} {xs : List Value} {vs : Array Value} (ho : w.ownsRow n 30 7 v ts.length xs) (hx : ∀ (j : Nat) (t : Tr), ts[j]? = some t → t.In w (fun g => n ≤ g ∧ some g ≠ v.ownBlock) (rdL xs (j * 7)))
    (ht : TrV w (fun c => m ≤ c) t vs) (hm : ∀ q, v.ownBlock = some q → q < m) (hnm : n ≤ m) (hX : Below w.heap.size w X)
    (ho2 : w2.ownsRow n 30 7 v' (ts.length + 1) (xs ++ vs.toList)) (hgr : X.grownBy w2 v.ownBlock) (hv : v'.ownBlock = v.ownBlock ∨ v'.ownBlock = some X.heap.size) : Kds w2 n v' (ts ++ [t]) := by
  have hkeep : ∀ g, g < w.heap.size → some g ≠ v.ownBlock → some g ≠ v'.ownBlock ∧ w2.heap[g]? = w.heap[g]? := fun g hg hne => by
    have hs := hX.size
    refine ⟨?_, (hgr.block g (by omega) hne).trans (hX.block g hg)⟩
    rcases hv with e | e
    · rw [e]; exact hne
    · rw [e]
      intro e2
      have := Option.some.inj e2
      omega
  refine ⟨_, by rw [List.length_append, List.length_cons, List.length_nil, Nat.zero_add]; exact ho2, fun j u hj => ?_⟩
  have hl := ho.1
  rcases Nat.lt_or_ge j ts.length with hlt | hge
  · rw [List.getElem?_append_left hlt] at hj
    refine ((hx j u hj).kept (fun g hg hp => ⟨⟨hp.1, (hkeep g hg hp.2).1⟩, (hkeep g hg hp.2).2⟩)).congr fun i hi => ?_
    rw [rdL, rdL, List.getElem?_append_left (by omega)]
  · have hjl : j = ts.length := by
      have := (List.getElem?_eq_some_iff.1 hj).1
      simp at this
      omega
    subst hjl
    have hu : t = u := by simpa using hj
    subst hu
    refine (ht.2.kept (fun g hg hp => ?_)).congr fun i hi => ?_
    · have hp : m ≤ g := hp
      have hne : some g ≠ v.ownBlock := fun e => by have := hm g e.symm; omega
      exact ⟨⟨by omega, (hkeep g hg hne).1⟩, (hkeep g hg hne).2⟩
    · rw [rdL, List.getElem?_append_right (by omega), hl, show ts.length * 7 + i - ts.length * 7 = i by omega, Array.getElem?_toList]
end Go.Proofs.YtmfcofiihopbfaaDoor

namespace Go.Proofs.YtmfcofiihopbfaaDoor
open Go.RowKit Go.Lib

theorem info_rx : (Tryd.prog.info? 30).map (fun i => (i.zero, i.size, i.bytes)) = some (some (.agg zero7), 7, 88) := by kernel_rfl
set_option maxRecDepth 100000 in
set_option maxHeartbeats 4000000 in
theorem rx_row {W : World} {pb d : Nat} {s : ByteArray} {b : Bool} {i n : Nat} (hg : GrpOk s b d) (hn : n + d = 40) (h : Prs W pb s b i n) (hi : i ≤ s.size) (hs : s.size ≤ 1024) (hE : Env W pb) :
    Calls Tryd.prog 18 #[pbP pb] W (RxOut (gTr W.heap.size) pb s b n W (rowF (grpF s b d) s b (s.size + 1) i [])) := by
  have hlt := Blk.lt h
  have F0 := Blk.new W zero7 30
  have S0 := (Stp.refl h).alloc (.cells zero7 30)
  have hE0 := hE.step S0 hlt
  have hsz0 : (W.alloc (.cells zero7 30)).heap.size = W.heap.size + 1 := by simp
  obtain ⟨i0, hi0, hz0, hz1, hz2⟩ := info_parts info_rx
  have HI := Lib.hid (And.intro hi0 (And.intro hz0 (And.intro hz1 hz2)))
  obtain ⟨W0, hW0⟩ : ∃ W0, W.alloc (.cells zero7 30) = W0 := ⟨_, rfl⟩
  rw [hW0] at F0 S0 hE0 hsz0
  have hlt0 : pb < W0.heap.size := by omega
  have hsA : W.heap.size < W0.heap.size := by omega
  have hneB : pb ≠ W.heap.size := by omega
  clear hsz0
  have HS0 := Lib.hid S0
  have HKF := Lib.hid (fun (w : World) (j : Nat) (hS : Stp pb s b j n W0 w) => show Blk w W.heap.size zero7 30 from ⟨(hS.off.block _ F0.lt (Ne.symm hneB) (Ne.symm hneB)).trans F0.row⟩)
  have HE := Lib.hid (fun (w : World) (j : Nat) (hS : Stp pb s b j n W0 w) => hE0.step hS hlt0)
  have HG := Lib.hid hg
  have GI := Lib.hid (grp_in s b d)
  obtain ⟨R, hR⟩ : ∃ R, rowF (grpF s b d) s b (s.size + 1) i [] = R := ⟨_, rfl⟩
  have HR := Lib.hid hR
  rw [hR]
  clear h hE hE0 S0 F0 hi0 hz0 hz1 hz2 hR hg
  go_enter Tryd.func18, Tryd.ntmps18
  go_wp2_with fail
  clear hW0
  go_loopw [3] (fun sv wr => ∃ (v : Value) (j f : Nat) (kids : List Tr), v = sv ∧ Stp pb s b j n W0 wr ∧ j ≤ s.size ∧ Kds wr W0.heap.size v kids ∧ kids.length ≤ j ∧ rowF (grpF s b d) s b f j kids = R ∧ s.size - j < f) (fun _ wr => s.size - (match wr.cell? ⟨pb, 2, none⟩ with | some v => (RowKit.intOf v).toNat | none => 0))
  case atStart => exact ⟨_, i, s.size + 1, [], rfl, Stp.refl HS0.out.prs, hi, Kds.nil _ _, by simp, HR.out, by omega⟩
  case round =>
    obtain ⟨v, j, f, kids, rfl, hS, hj, hK, hkl, hR2, hf⟩ := hrel
    have HSr := Lib.hid hS
    obtain ⟨f1, rfl⟩ : ∃ g, f = g + 1 := ⟨f - 1, by omega⟩
    have q2r := hS.prs.four.2.2.1
    obtain ⟨p1, e1⟩ : ∃ p, st1 s j 124 = p := ⟨_, rfl⟩
    obtain ⟨p2, e2⟩ : ∃ p, st1 s j 41 = p := ⟨_, rfl⟩
    have CT1 := Lib.hid (fun w (hS : Stp pb s b j n W0 w) => rx_stands1 hS.prs hj 124 p1 e1)
    have CT2 := Lib.hid (fun w (hS : Stp pb s b j n W0 w) => rx_stands1 hS.prs hj 41 p2 e2)
    have CTo := Lib.hid (fun (w : World) (hS : Stp pb s b j n W0 w) (A : Option Addr) (cp : Nat) (hI : Tr.Ins w (fun g => W0.heap.size ≤ g) kids A 0) => rx_together hI (by omega) 5 cp)
    obtain ⟨A, cp, hv⟩ := hK.slice
    obtain ⟨xs, ho, hx⟩ := hK
    have KI : Kds wr W0.heap.size v kids := ⟨xs, ho, hx⟩
    have CE := fun (p : Bool) (hp : ((j : Int) == (s.size : Int)) = p) => rx_ended hS.prs p hp
    have HKW := Lib.hid (fun (w : World) (o : Off2 pb pb wr w) => KI.kept (w' := w) (fun g hg hp => o.block g hg (by omega) (by omega)))
    have HOW := Lib.hid (fun (w : World) (o : Off2 pb pb wr w) => own_off ho o hlt0)
    have HXW := Lib.hid (fun (w : World) (o : Off2 pb pb wr w) (jj : Nat) (t : Tr) (ht : kids[jj]? = some t) => (hx jj t ht).kept (w' := w) (P' := fun g => W0.heap.size ≤ g ∧ some g ≠ v.ownBlock) (fun g hg hp => ⟨hp, o.block g hg (by omega) (by omega)⟩))
    by_cases hje : j = s.size
    · have hend : rowE s j := .inl hje
      have CE := Lib.hid (CE true (by rw [size_beq, decide_eq_true_eq]; exact hje))
      clear CT1 CT2
      have HRE := Lib.hid (show R = .ok (togF 5 kids) j from hR2.symm.trans (row_end hend))
      subst hv
      clear ho hx KI hR2 hS q2r hend HOW HXW
      go_wp2_with fail
      refine CE.out.mono ?_
      rintro e wa ⟨rfl, hSa⟩
      have Ha := Lib.hid (HSr.out.trans hSa)
      have Oa := Lib.hid hSa.off
      clear hSa CE
      go_wp2_with fail
      refine (CTo.out _ Ha.out A cp ((HKW.out _ Oa.out).ins)).mono ?_
      rintro e w4 ⟨vs, rfl, ht, hb⟩
      obtain ⟨kind, code, neg, A3, n3, c3, lo, hi', A2, n2, c2, rfl⟩ := ht.form
      have S4 := Ha.out.below hb
      have F2 := HKF.out _ _ S4
      have FIN := Lib.hid (node_put (HS0.out.trans S4) F2 ht hsA)
      clear ht hb S4 CTo HKW
      obtain ⟨z7, _⟩ := rx_end7 (.int .i64 kind) (.int .i64 code) (.bool neg) (.slice A3 n3 c3) (.int .i64 lo) (.int .i64 hi') (.slice A2 n2 c2) F2
      obtain ⟨⟨y0, y1, y2, y3, y4, y5, y6⟩, _⟩ := z7.seven
      obtain ⟨⟨k0, k1, k2, k3, k4, k5, k6⟩, f0, f1', f2, f3, f4, f5, f6⟩ := F2.seven
      unfold put7 at y0 y1 y2 y3 y4 y5 y6
      clear F2 z7
      go_wp2_with fail
      rw [HRE.out]
      exact bodyPost_ret (v := .agg #[.int .i64 kind, .int .i64 code, .bool neg, .slice A3 n3 c3, .int .i64 lo, .int .i64 hi', .slice A2 n2 c2]) (by simp [results, Tryd.results18, go_sem, y0, y1, y2, y3, y4, y5, y6]) rfl FIN.out
    have CE := Lib.hid (CE false (by rw [size_beq, decide_eq_false_iff_not]; exact hje))
    cases p1 with
    | true =>
      have hend : rowE s j := .inr (.inl e1)
      clear CT2
      have HRE := Lib.hid (show R = .ok (togF 5 kids) j from hR2.symm.trans (row_end hend))
      subst hv
      clear ho hx KI hR2 hS q2r hend HOW HXW
      go_wp2_with fail
      refine CE.out.mono ?_
      rintro e wa ⟨rfl, hSa⟩
      have Ha := Lib.hid (HSr.out.trans hSa)
      have Oa := Lib.hid hSa.off
      clear hSa CE
      go_wp2_with fail
      refine (CT1.out _ Ha.out).mono ?_
      rintro e wb ⟨rfl, hSb⟩
      have Hb := Lib.hid (Ha.out.trans hSb)
      have Ob := Lib.hid (Oa.out.trans hSb.off)
      clear hSb CT1
      go_wp2_with fail
      refine (CTo.out _ Hb.out A cp ((HKW.out _ Ob.out).ins)).mono ?_
      rintro e w4 ⟨vs, rfl, ht, hb⟩
      obtain ⟨kind, code, neg, A3, n3, c3, lo, hi', A2, n2, c2, rfl⟩ := ht.form
      have S4 := Hb.out.below hb
      have F2 := HKF.out _ _ S4
      have FIN := Lib.hid (node_put (HS0.out.trans S4) F2 ht hsA)
      clear ht hb S4 CTo HKW
      obtain ⟨z7, _⟩ := rx_end7 (.int .i64 kind) (.int .i64 code) (.bool neg) (.slice A3 n3 c3) (.int .i64 lo) (.int .i64 hi') (.slice A2 n2 c2) F2
      obtain ⟨⟨y0, y1, y2, y3, y4, y5, y6⟩, _⟩ := z7.seven
      obtain ⟨⟨k0, k1, k2, k3, k4, k5, k6⟩, f0, f1', f2, f3, f4, f5, f6⟩ := F2.seven
      unfold put7 at y0 y1 y2 y3 y4 y5 y6
      clear F2 z7
      go_wp2_with fail
      rw [HRE.out]
      exact bodyPost_ret (v := .agg #[.int .i64 kind, .int .i64 code, .bool neg, .slice A3 n3 c3, .int .i64 lo, .int .i64 hi', .slice A2 n2 c2]) (by simp [results, Tryd.results18, go_sem, y0, y1, y2, y3, y4, y5, y6]) rfl FIN.out
    | false =>
      cases p2 with
      | true =>
        have hend : rowE s j := .inr (.inr e2)
        have HRE := Lib.hid (show R = .ok (togF 5 kids) j from hR2.symm.trans (row_end hend))
        subst hv
        clear ho hx KI hR2 hS q2r hend HOW HXW
        go_wp2_with fail
        refine CE.out.mono ?_
        rintro e wa ⟨rfl, hSa⟩
        have Ha := Lib.hid (HSr.out.trans hSa)
        have Oa := Lib.hid hSa.off
        clear hSa CE
        go_wp2_with fail
        refine (CT1.out _ Ha.out).mono ?_
        rintro e wb ⟨rfl, hSb⟩
        have Hb := Lib.hid (Ha.out.trans hSb)
        have Ob := Lib.hid (Oa.out.trans hSb.off)
        clear hSb CT1
        go_wp2_with fail
        refine (CT2.out _ Hb.out).mono ?_
        rintro e wc ⟨rfl, hSc⟩
        have Hc := Lib.hid (Hb.out.trans hSc)
        have Oc := Lib.hid (Ob.out.trans hSc.off)
        clear hSc CT2
        go_wp2_with fail
        refine (CTo.out _ Hc.out A cp ((HKW.out _ Oc.out).ins)).mono ?_
        rintro e w4 ⟨vs, rfl, ht, hb⟩
        obtain ⟨kind, code, neg, A3, n3, c3, lo, hi', A2, n2, c2, rfl⟩ := ht.form
        have S4 := Hc.out.below hb
        have F2 := HKF.out _ _ S4
        have FIN := Lib.hid (node_put (HS0.out.trans S4) F2 ht hsA)
        clear ht hb S4 CTo HKW
        obtain ⟨z7, _⟩ := rx_end7 (.int .i64 kind) (.int .i64 code) (.bool neg) (.slice A3 n3 c3) (.int .i64 lo) (.int .i64 hi') (.slice A2 n2 c2) F2
        obtain ⟨⟨y0, y1, y2, y3, y4, y5, y6⟩, _⟩ := z7.seven
        obtain ⟨⟨k0, k1, k2, k3, k4, k5, k6⟩, f0, f1', f2, f3, f4, f5, f6⟩ := F2.seven
        unfold put7 at y0 y1 y2 y3 y4 y5 y6
        clear F2 z7
        go_wp2_with fail
        rw [HRE.out]
        exact bodyPost_ret (v := .agg #[.int .i64 kind, .int .i64 code, .bool neg, .slice A3 n3 c3, .int .i64 lo, .int .i64 hi', .slice A2 n2 c2]) (by simp [results, Tryd.results18, go_sem, y0, y1, y2, y3, y4, y5, y6]) rfl FIN.out
      | false =>
        have hne : ¬ rowE s j := by
          rintro (e | e | e)
          · exact hje e
          · rw [e1] at e; cases e
          · rw [e2] at e; cases e
        have hjl : j < s.size := by omega
        have CN := fun w (hS : Stp pb s b j n W0 w) => rx_node HG.out hn hS.prs hjl hs (HE.out _ _ hS)
        clear CTo
        rcases List.eq_nil_or_concat kids with hnil | ⟨ks, t0, hcat⟩
        · subst hnil
          have hv0 : v = .slice A 0 cp := hv
          subst hv0
          clear hv
          obtain ⟨Q, hQ⟩ : ∃ Q, nodeF (grpF s b d) s b j = Q := ⟨_, rfl⟩
          rw [hQ] at CN
          have CN := Lib.hid CN
          cases Q with
          | bad ka er =>
            have HR2 := Lib.hid (show R = .bad ka er from hR2.symm.trans (row_nodebad hne (.inl rfl) hQ))
            clear hQ hR2 ho hx KI hS q2r hne HOW HXW HKW
            go_wp2_with fail
            refine CE.out.mono ?_
            rintro e wa ⟨rfl, hSa⟩
            have Ha := Lib.hid (HSr.out.trans hSa)
            have Oa := Lib.hid hSa.off
            clear hSa CE
            go_wp2_with fail
            refine (CT1.out _ Ha.out).mono ?_
            rintro e wb ⟨rfl, hSb⟩
            have Hb := Lib.hid (Ha.out.trans hSb)
            have Ob := Lib.hid (Oa.out.trans hSb.off)
            clear hSb CT1
            go_wp2_with fail
            refine (CT2.out _ Hb.out).mono ?_
            rintro e wc ⟨rfl, hSc⟩
            have Hc := Lib.hid (Hb.out.trans hSc)
            have Oc := Lib.hid (Ob.out.trans hSc.off)
            clear hSc CT2
            go_wp2_with fail
            refine (CN.out _ Hc.out).mono ?_
            rintro e w3 ⟨rfl, hO⟩
            have HO := Lib.hid hO
            clear hO CN
            go_wp2_with fail
            rw [HR2.out]
            exact ⟨rfl, rfl, HS0.out.off.trans (Hc.out.off.trans HO.out)⟩
          | ok t ka =>
            have hjk := node_in GI.out hjl hQ
            have HR2 := Lib.hid (show rowF (grpF s b d) s b f1 ka (([] : List Tr) ++ [t]) = R from (row_node hne (.inl rfl) hQ).symm.trans hR2)
            have hvb := fun q hq => (ho.lt q hq)
            have HVB := Lib.hid hvb
            clear hQ hR2 ho hx KI hS hne HKW hvb
            go_wp2_with fail
            refine CE.out.mono ?_
            rintro e wa ⟨rfl, hSa⟩
            have Ha := Lib.hid (HSr.out.trans hSa)
            have Oa := Lib.hid hSa.off
            clear hSa CE
            go_wp2_with fail
            refine (CT1.out _ Ha.out).mono ?_
            rintro e wb ⟨rfl, hSb⟩
            have Hb := Lib.hid (Ha.out.trans hSb)
            have Ob := Lib.hid (Oa.out.trans hSb.off)
            clear hSb CT1
            go_wp2_with fail
            refine (CT2.out _ Hb.out).mono ?_
            rintro e wc ⟨rfl, hSc⟩
            have Hc := Lib.hid (Hb.out.trans hSc)
            have Oc := Lib.hid (Ob.out.trans hSc.off)
            clear hSc CT2
            go_wp2_with fail
            refine (CN.out _ Hc.out).mono ?_
            rintro e w3 ⟨vv, rfl, ⟨vs, rfl, ht⟩, hS3⟩
            obtain ⟨kind, code, neg, A3, n3, c3, lo, hi', A2, n2, c2, rfl⟩ := ht.form
            have S3 := Lib.hid (Hc.out.trans hS3)
            have O3 := Lib.hid (Oc.out.trans hS3.off)
            have hz3 := O3.out.size
            have hz4 := (Oc.out).size
            have HT3 := Lib.hid ht
            have OW3 := Lib.hid (HOW.out _ O3.out)
            have OWm := Lib.hid (show w3.ownsRow W0.heap.size 30 7 (Value.slice A 0 cp) (0) xs from by have h9 := OW3.out; rwa [show (([] : List Tr)).length = 0 from rfl] at h9)
            have RN := Lib.hid (show ∀ jj u, [.int .i64 kind, .int .i64 code, .bool neg, .slice A3 n3 c3, .int .i64 lo, .int .i64 hi', .slice A2 n2 c2][jj]? = some u → (w3.alloc (.cells #[.int .i64 kind, .int .i64 code, .bool neg, .slice A3 n3 c3, .int .i64 lo, .int .i64 hi', .slice A2 n2 c2] 30)).cell? ((⟨w3.heap.size, 0, none⟩ : Addr).add jj) = some u from rx_row_new w3 #[.int .i64 kind, .int .i64 code, .bool neg, .slice A3 n3 c3, .int .i64 lo, .int .i64 hi', .slice A2 n2 c2] 30)
            have hz5 := S3.out.off.size
            clear hS3 ht CN
            go_wp2_with (at_builtin; refine wpList_append_own_at _ rfl _ _ 28 rfl W0.heap.size 30 i0 _ 7 88 Tryd.underlying28 HI.out.1 HI.out.2.1 HI.out.2.2.1 HI.out.2.2.2 rfl (by decide) _ (0) xs rfl (OWm.out.alloc _) ⟨w3.heap.size, 0, none⟩ 1 1 [.int .i64 kind, .int .i64 code, .bool neg, .slice A3 n3 c3, .int .i64 lo, .int .i64 hi', .slice A2 n2 c2] rfl rfl RN.out (by simp [Value.oneCell']) (by unfold maxLen; omega) (by omega) (by simp; omega) ?_)
            rintro v' w4 ho2 hgr _ hvv
            have hX3 := (Below.refl w3.heap.size w3).alloc (Nat.le_refl _) (.cells #[.int .i64 kind, .int .i64 code, .bool neg, .slice A3 n3 c3, .int .i64 lo, .int .i64 hi', .slice A2 n2 c2] 30)
            have ho3 : w4.ownsRow W0.heap.size 30 7 v' ((([] : List Tr)).length + 1) (xs ++ (#[.int .i64 kind, .int .i64 code, .bool neg, .slice A3 n3 c3, .int .i64 lo, .int .i64 hi', .slice A2 n2 c2] : Array Value).toList) := by rw [show (([] : List Tr)).length = 0 from rfl]; exact ho2
            have K4 := Lib.hid (Kds.snoc (m := wc.heap.size) OW3.out (HXW.out _ O3.out) HT3.out (fun q hq => Nat.lt_of_lt_of_le (HVB.out q hq).2 hz4) (Nat.le_trans Hc.out.off.size (Nat.le_refl _)) hX3 ho3 hgr (by rw [World.size_alloc]; exact hvv))
            have hvb2 : ∀ q, (Value.slice A 0 cp).ownBlock = some q → W0.heap.size ≤ q := fun q hq => (HVB.out q hq).1
            have P4 : Prs w4 pb s b ka n := Blk.grown (Blk.alloc S3.out.prs _) hgr (fun e => by have := hvb2 pb e.symm; omega)
            have S4 := Lib.hid (show Stp pb s b ka n W0 w4 from ⟨P4, off_grown (S3.out.off.trans (Off2.of_below hX3)) hgr hvb2⟩)
            have q4 := P4.four.2.2.1
            clear ho2 ho3 OWm hgr hvv hX3 hvb2 P4 RN OW3 HXW HOW HVB HT3 S3 O3
            go_wp2_with fail
            refine ⟨⟨v', ka, f1, ([] : List Tr) ++ [t], rfl, S4.out, hjk.2, K4.out, by have h8 := hkl; simp only [List.length_append, List.length_cons, List.length_nil] at h8 ⊢; omega, HR2.out, by omega⟩, ?_⟩
            rw [q4, q2r]
            simp [RowKit.intOf]
            omega
        · rw [List.concat_eq_append] at hcat
          subst hcat
          obtain ⟨K, kcap, cur, kind0, code0, neg0, A30, n30, c30, lo0, hi0', A20, n20, c20, hvK, hKn, hrow, ⟨u0, u1, u2, u3, u4, u5, u6⟩, hTK⟩ := KI.last
          have hlk : (ks ++ [t0]).length = ks.length + 1 := by simp
          obtain ⟨m, hm⟩ : ∃ m, ks.length = m := ⟨_, rfl⟩
          have hwm : IntKind.i64.wrap (((m + 1 : Nat) : Int) - 1) = (m : Int) := by simp [IntKind.wrap, IntKind.bits, IntKind.signed]; omega
          obtain ⟨m1, hm1⟩ : ∃ m1, m + 1 = m1 := ⟨_, rfl⟩
          rw [hm1] at hwm
          rw [hm, hm1] at hvK hlk
          have hlm : (ks ++ [t0]).length = m1 := hlk
          subst hvK
          have hm0 : (0 : Int) ≤ (m : Int) := by omega
          have hmm : (m : Int) < (m1 : Int) := by omega
          have CR := fun w (hS : Stp pb s b j n W0 w) (o : Off2 pb pb wr w) => rx_repeat (o := m * 7) (K := K) hS.prs hj hs ((o.block K (Array.getElem?_eq_some_iff.1 hrow).1 (by omega) (by omega)).trans hrow) (by omega) (hm ▸ u0) (hm ▸ u1) (hm ▸ u2) (hm ▸ u3) (hm ▸ u4) (hm ▸ u5) (hm ▸ u6)
          obtain ⟨Q2, hQ2⟩ : ∃ Q, repF s j = Q := ⟨_, rfl⟩
          rw [hQ2] at CR
          unfold RepM at CR
          have CR := Lib.hid CR
          have HTK := Lib.hid hTK
          have hKs := (Array.getElem?_eq_some_iff.1 hrow).1
          have HM := Lib.hid hm
          clear hv hrow u0 u1 u2 u3 u4 u5 u6 hTK hlk hm hm1
          match Q2, CR, hQ2 with
          | none, CR, hQ2 =>
            have HQ2 := Lib.hid hQ2
            clear hQ2 HTK
            obtain ⟨Q, hQ⟩ : ∃ Q, nodeF (grpF s b d) s b j = Q := ⟨_, rfl⟩
            rw [hQ] at CN
            have CN := Lib.hid CN
            cases Q with
            | bad ka er =>
              have HR2 := Lib.hid (show R = .bad ka er from hR2.symm.trans (row_nodebad hne (.inr HQ2.out) hQ))
              clear hQ hR2 ho hx KI hS q2r hne HOW HXW HKW
              go_wp2_with fail
              refine CE.out.mono ?_
              rintro e wa ⟨rfl, hSa⟩
              have Ha := Lib.hid (HSr.out.trans hSa)
              have Oa := Lib.hid hSa.off
              clear hSa CE
              go_wp2_with fail
              refine (CT1.out _ Ha.out).mono ?_
              rintro e wb ⟨rfl, hSb⟩
              have Hb := Lib.hid (Ha.out.trans hSb)
              have Ob := Lib.hid (Oa.out.trans hSb.off)
              clear hSb CT1
              go_wp2_with fail
              refine (CT2.out _ Hb.out).mono ?_
              rintro e wc ⟨rfl, hSc⟩
              have Hc := Lib.hid (Hb.out.trans hSc)
              have Oc := Lib.hid (Ob.out.trans hSc.off)
              clear hSc CT2
              go_wp2_with fail
              refine (show Calls _ _ _ _ _ from CR.out _ Hc.out Oc.out).mono ?_
              rintro e wd ⟨rfl, hSd⟩
              have Hd := Lib.hid (Hc.out.trans hSd)
              have Od := Lib.hid (Oc.out.trans hSd.off)
              clear hSd CR
              go_wp2_with fail
              refine (CN.out _ Hd.out).mono ?_
              rintro e w3 ⟨rfl, hO⟩
              have HO := Lib.hid hO
              clear hO CN
              go_wp2_with fail
              rw [HR2.out]
              exact ⟨rfl, rfl, HS0.out.off.trans (Hd.out.off.trans HO.out)⟩
            | ok t ka =>
              have hjk := node_in GI.out hjl hQ
              have HR2 := Lib.hid (show rowF (grpF s b d) s b f1 ka (ks ++ [t0] ++ [t]) = R from (row_node hne (.inr HQ2.out) hQ).symm.trans hR2)
              have hvb := fun q hq => (ho.lt q hq)
              have HVB := Lib.hid hvb
              clear hQ hR2 ho hx KI hS hne HKW hvb
              go_wp2_with fail
              refine CE.out.mono ?_
              rintro e wa ⟨rfl, hSa⟩
              have Ha := Lib.hid (HSr.out.trans hSa)
              have Oa := Lib.hid hSa.off
              clear hSa CE
              go_wp2_with fail
              refine (CT1.out _ Ha.out).mono ?_
              rintro e wb ⟨rfl, hSb⟩
              have Hb := Lib.hid (Ha.out.trans hSb)
              have Ob := Lib.hid (Oa.out.trans hSb.off)
              clear hSb CT1
              go_wp2_with fail
              refine (CT2.out _ Hb.out).mono ?_
              rintro e wc ⟨rfl, hSc⟩
              have Hc := Lib.hid (Hb.out.trans hSc)
              have Oc := Lib.hid (Ob.out.trans hSc.off)
              clear hSc CT2
              go_wp2_with fail
              refine (show Calls _ _ _ _ _ from CR.out _ Hc.out Oc.out).mono ?_
              rintro e wd ⟨rfl, hSd⟩
              have Hd := Lib.hid (Hc.out.trans hSd)
              have Od := Lib.hid (Oc.out.trans hSd.off)
              clear hSd CR
              go_wp2_with fail
              refine (CN.out _ Hd.out).mono ?_
              rintro e w3 ⟨vv, rfl, ⟨vs, rfl, ht⟩, hS3⟩
              obtain ⟨kind, code, neg, A3, n3, c3, lo, hi', A2, n2, c2, rfl⟩ := ht.form
              have S3 := Lib.hid (Hd.out.trans hS3)
              have O3 := Lib.hid (Od.out.trans hS3.off)
              have hz3 := O3.out.size
              have hz4 := (Od.out).size
              have HT3 := Lib.hid ht
              have OW3 := Lib.hid (HOW.out _ O3.out)
              have OWm := Lib.hid (show w3.ownsRow W0.heap.size 30 7 (Value.slice (some ⟨K, 0, none⟩) m1 kcap) (m1) xs from by have h9 := OW3.out; rwa [show (ks ++ [t0]).length = m1 from hlm] at h9)
              have RN := Lib.hid (show ∀ jj u, [.int .i64 kind, .int .i64 code, .bool neg, .slice A3 n3 c3, .int .i64 lo, .int .i64 hi', .slice A2 n2 c2][jj]? = some u → (w3.alloc (.cells #[.int .i64 kind, .int .i64 code, .bool neg, .slice A3 n3 c3, .int .i64 lo, .int .i64 hi', .slice A2 n2 c2] 30)).cell? ((⟨w3.heap.size, 0, none⟩ : Addr).add jj) = some u from rx_row_new w3 #[.int .i64 kind, .int .i64 code, .bool neg, .slice A3 n3 c3, .int .i64 lo, .int .i64 hi', .slice A2 n2 c2] 30)
              have hz5 := S3.out.off.size
              clear hS3 ht CN
              go_wp2_with (at_builtin; refine wpList_append_own_at _ rfl _ _ 28 rfl W0.heap.size 30 i0 _ 7 88 Tryd.underlying28 HI.out.1 HI.out.2.1 HI.out.2.2.1 HI.out.2.2.2 rfl (by decide) _ (m1) xs rfl (OWm.out.alloc _) ⟨w3.heap.size, 0, none⟩ 1 1 [.int .i64 kind, .int .i64 code, .bool neg, .slice A3 n3 c3, .int .i64 lo, .int .i64 hi', .slice A2 n2 c2] rfl rfl RN.out (by simp [Value.oneCell']) (by unfold maxLen; omega) (by omega) (by simp; omega) ?_)
              rintro v' w4 ho2 hgr _ hvv
              have hX3 := (Below.refl w3.heap.size w3).alloc (Nat.le_refl _) (.cells #[.int .i64 kind, .int .i64 code, .bool neg, .slice A3 n3 c3, .int .i64 lo, .int .i64 hi', .slice A2 n2 c2] 30)
              have ho3 : w4.ownsRow W0.heap.size 30 7 v' ((ks ++ [t0]).length + 1) (xs ++ (#[.int .i64 kind, .int .i64 code, .bool neg, .slice A3 n3 c3, .int .i64 lo, .int .i64 hi', .slice A2 n2 c2] : Array Value).toList) := by rw [show (ks ++ [t0]).length = m1 from hlm]; exact ho2
              have K4 := Lib.hid (Kds.snoc (m := wd.heap.size) OW3.out (HXW.out _ O3.out) HT3.out (fun q hq => Nat.lt_of_lt_of_le (HVB.out q hq).2 hz4) (Nat.le_trans Hd.out.off.size (Nat.le_refl _)) hX3 ho3 hgr (by rw [World.size_alloc]; exact hvv))
              have hvb2 : ∀ q, (Value.slice (some ⟨K, 0, none⟩) m1 kcap).ownBlock = some q → W0.heap.size ≤ q := fun q hq => (HVB.out q hq).1
              have P4 : Prs w4 pb s b ka n := Blk.grown (Blk.alloc S3.out.prs _) hgr (fun e => by have := hvb2 pb e.symm; omega)
              have S4 := Lib.hid (show Stp pb s b ka n W0 w4 from ⟨P4, off_grown (S3.out.off.trans (Off2.of_below hX3)) hgr hvb2⟩)
              have q4 := P4.four.2.2.1
              clear ho2 ho3 OWm hgr hvv hX3 hvb2 P4 RN OW3 HXW HOW HVB HT3 S3 O3
              go_wp2_with fail
              refine ⟨⟨v', ka, f1, ks ++ [t0] ++ [t], rfl, S4.out, hjk.2, K4.out, by have h8 := hkl; simp only [List.length_append, List.length_cons, List.length_nil] at h8 ⊢; omega, HR2.out, by omega⟩, ?_⟩
              rw [q4, q2r]
              simp [RowKit.intOf]
              omega
          | some (.bad ka er), CR, hQ2 =>
            have HR2 := Lib.hid (show R = .bad ka er from hR2.symm.trans (row_repbad hne hQ2))
            clear hQ2 HTK hR2 ho hx KI hS q2r hne HOW HXW HKW CN
            go_wp2_with fail
            refine CE.out.mono ?_
            rintro e wa ⟨rfl, hSa⟩
            have Ha := Lib.hid (HSr.out.trans hSa)
            have Oa := Lib.hid hSa.off
            clear hSa CE
            go_wp2_with fail
            refine (CT1.out _ Ha.out).mono ?_
            rintro e wb ⟨rfl, hSb⟩
            have Hb := Lib.hid (Ha.out.trans hSb)
            have Ob := Lib.hid (Oa.out.trans hSb.off)
            clear hSb CT1
            go_wp2_with fail
            refine (CT2.out _ Hb.out).mono ?_
            rintro e wc ⟨rfl, hSc⟩
            have Hc := Lib.hid (Hb.out.trans hSc)
            have Oc := Lib.hid (Ob.out.trans hSc.off)
            clear hSc CT2
            go_wp2_with fail
            refine (show Calls _ _ _ _ _ from CR.out _ Hc.out Oc.out).mono ?_
            rintro e wd ⟨rfl, hO⟩
            have HO := Lib.hid hO
            clear hO CR
            go_wp2_with fail
            rw [HR2.out]
            exact ⟨rfl, rfl, HS0.out.off.trans (Hc.out.off.trans HO.out)⟩
          | some (.ok rr ka), CR, hQ2 =>
            have hjk := rep_in hQ2
            have HR2 := Lib.hid (show rowF (grpF s b d) s b f1 ka (ks ++ [trR rr.1 rr.2 t0]) = R from (row_rep hne hQ2).symm.trans hR2)
            have hlm2 : (ks ++ [trR rr.1 rr.2 t0]).length = m1 := by rw [← hlm]; simp
            clear hQ2 hR2 ho hx KI hS hne HOW HXW CN
            go_wp2_with fail
            refine CE.out.mono ?_
            rintro e wa ⟨rfl, hSa⟩
            have Ha := Lib.hid (HSr.out.trans hSa)
            have Oa := Lib.hid hSa.off
            clear hSa CE
            go_wp2_with fail
            refine (CT1.out _ Ha.out).mono ?_
            rintro e wb ⟨rfl, hSb⟩
            have Hb := Lib.hid (Ha.out.trans hSb)
            have Ob := Lib.hid (Oa.out.trans hSb.off)
            clear hSb CT1
            go_wp2_with fail
            refine (CT2.out _ Hb.out).mono ?_
            rintro e wc ⟨rfl, hSc⟩
            have Hc := Lib.hid (Hb.out.trans hSc)
            have Oc := Lib.hid (Ob.out.trans hSc.off)
            clear hSc CT2
            go_wp2_with fail
            refine (show Calls _ _ _ _ _ from CR.out _ Hc.out Oc.out).mono ?_
            rintro e wd ⟨rfl, W1, hS1, hwd⟩
            have S1 := Hc.out.trans hS1
            have O1 := Oc.out.trans hS1.off
            have K1 := HKW.out _ O1
            have T1 := HTK.out.kept (w' := W1) (P' := fun g => W0.heap.size ≤ g ∧ g ≠ K) (fun g hg hp => ⟨hp, O1.block g hg (by omega) (by omega)⟩)
            have hz1 := S1.off.size
            have hz2 := O1.size
            have K4 := Lib.hid (show Kds wd W0.heap.size (.slice (some ⟨K, 0, none⟩) m1 kcap) (ks ++ [trR rr.1 rr.2 t0]) from by
              rw [hwd]
              have h9 : Kds W1 W0.heap.size (.slice (some ⟨K, 0, none⟩) (ks.length + 1) kcap) (ks ++ [t0]) := by
                rw [show ks.length + 1 = m1 by rw [← hlm]; simp]
                exact K1
              have h8 := Kds.rep (lo := rr.1) (hi := rr.2) h9 hKn T1 hz1 (by omega)
              rw [show ks.length + 1 = m1 by rw [← hlm]; simp, HM.out] at h8
              exact h8)
            have S4 := Lib.hid (show Stp pb s b ka n W0 wd from by
              rw [hwd]
              exact (S1.aside (off_put7o _ _ _ _ _ _ _ _ _ _) hKn (by omega)).alloc _)
            have q4 := S4.out.prs.four.2.2.1
            clear hS1 hwd S1 O1 K1 T1 CR HTK HKW
            go_wp2_with fail
            refine ⟨⟨_, ka, f1, ks ++ [trR rr.1 rr.2 t0], rfl, S4.out, hjk.2, K4.out, by rw [hlm2]; rw [hlm] at hkl; omega, HR2.out, by omega⟩, ?_⟩
            rw [q4, q2r]
            simp [RowKit.intOf]
            omega
end Go.Proofs.YtmfcofiihopbfaaDoor

namespace Go.Proofs.YtmfcofiihopbfaaDoor
open Go.RowKit Go.Lib

/-- A row of one node. -/
theorem Kds.one {w : World} {n m : Nat} {t : Tr} {vs : Array Value} (ht : TrV w (fun c => m ≤ c) t vs) (hnm : n ≤ m) (hm : m ≤ w.heap.size) : Kds (w.alloc (.cells vs 30)) n (.slice (some ⟨w.heap.size, 0, none⟩) 1 1) [t] := by
  have ho : (w.alloc (.cells vs 30)).ownsRow n 30 7 (.slice (some ⟨w.heap.size, 0, none⟩) 1 1) 1 vs.toList := World.ownsRow_lit w vs 1 (Nat.le_trans hnm hm) (by decide) (by rw [ht.1])
  refine ⟨vs.toList, ho, fun j u hj => ?_⟩
  have hj0 : j = 0 := by
    have := (List.getElem?_eq_some_iff.1 hj).1
    simp at this
    omega
  subst hj0
  have hu : t = u := by simpa using hj
  subst hu
  refine (ht.2.kept (fun g hg hp => ?_)).congr fun i hi => ?_
  · have hp : m ≤ g := hp
    exact ⟨⟨by omega, fun e => by have h2 : g = w.heap.size := Option.some.inj e; omega⟩, Below.heap_alloc w _ g hg⟩
  · rw [rdL, Nat.zero_mul, Nat.zero_add, Array.getElem?_toList]
set_option maxRecDepth 100000 in
set_option maxHeartbeats 4000000 in
theorem rx_choice {W : World} {pb d : Nat} {s : ByteArray} {b : Bool} {i n : Nat} (hg : GrpOk s b d) (hn : n + d = 40) (h : Prs W pb s b i n) (hi : i ≤ s.size) (hs : s.size ≤ 1024) (hE : Env W pb) :
    Calls Tryd.prog 14 #[pbP pb] W (RxOut (gTr W.heap.size) pb s b n W (chD s b d i)) := by
  have hlt := Blk.lt h
  have F0 := Blk.new W zero7 30
  have S0 := (Stp.refl h).alloc (.cells zero7 30)
  have hE0 := hE.step S0 hlt
  have hsz0 : (W.alloc (.cells zero7 30)).heap.size = W.heap.size + 1 := by simp
  obtain ⟨i0, hi0, hz0, hz1, hz2⟩ := info_parts info_rx
  have HI := Lib.hid (And.intro hi0 (And.intro hz0 (And.intro hz1 hz2)))
  obtain ⟨W0, hW0⟩ : ∃ W0, W.alloc (.cells zero7 30) = W0 := ⟨_, rfl⟩
  rw [hW0] at F0 S0 hE0 hsz0
  have hlt0 : pb < W0.heap.size := by omega
  have hsA : W.heap.size < W0.heap.size := by omega
  have hneB : pb ≠ W.heap.size := by omega
  clear hsz0
  have HS0 := Lib.hid S0
  have HKF := Lib.hid (fun (w : World) (j : Nat) (hS : Stp pb s b j n W0 w) => show Blk w W.heap.size zero7 30 from ⟨(hS.off.block _ F0.lt (Ne.symm hneB) (Ne.symm hneB)).trans F0.row⟩)
  have HE := Lib.hid (fun (w : World) (j : Nat) (hS : Stp pb s b j n W0 w) => hE0.step hS hlt0)
  have GI := Lib.hid (grp_in s b d)
  have HRow := Lib.hid (fun (w : World) (j : Nat) (hj : j ≤ s.size) (hS : Stp pb s b j n W0 w) => rx_row hg hn hS.prs hj hs (hE0.step hS hlt0))
  obtain ⟨R, hR⟩ : ∃ R, chD s b d i = R := ⟨_, rfl⟩
  have hR0 : chF (grpF s b d) s b (s.size + 1) i [] = R := hR
  rw [hR]
  obtain ⟨Q0, hQ0⟩ : ∃ Q, rowF (grpF s b d) s b (s.size + 1) i [] = Q := ⟨_, rfl⟩
  rw [chF, hQ0] at hR0
  have CR0 := HRow.out _ i hi (Stp.refl S0.prs)
  rw [hQ0] at CR0
  have CR0 := Lib.hid CR0
  clear h hE hE0 S0 F0 hi0 hz0 hz1 hz2 hR hg
  cases Q0 with
  | bad ka er =>
    have HR2 := Lib.hid (show R = .bad ka er from hR0.symm)
    clear hR0 hQ0
    go_enter Tryd.func14, Tryd.ntmps14
    go_wp2_with fail
    clear hW0
    refine CR0.out.mono ?_
    rintro e w1 ⟨rfl, hO⟩
    have HO := Lib.hid hO
    clear hO CR0
    go_wp2_with fail
    rw [HR2.out]
    exact ⟨rfl, rfl, HS0.out.off.trans HO.out⟩
  | ok t k0 =>
    have hk0 := row_in GI.out hi hQ0
    have HR0 := Lib.hid hR0
    clear hR0 hQ0
    go_enter Tryd.func14, Tryd.ntmps14
    go_wp2_with fail
    clear hW0
    refine CR0.out.mono ?_
    rintro e w1 ⟨vv, rfl, ⟨vs, rfl, ht⟩, hS1⟩
    obtain ⟨kind, code, neg, A3, n3, c3, lo, hi', A2, n2, c2, rfl⟩ := ht.form
    have K1 := Lib.hid (Kds.one (n := W0.heap.size) ht (Nat.le_refl _) hS1.off.size)
    have S1 := Lib.hid (hS1.alloc (.cells #[.int .i64 kind, .int .i64 code, .bool neg, .slice A3 n3 c3, .int .i64 lo, .int .i64 hi', .slice A2 n2 c2] 30))
    clear ht hS1 CR0
    go_wp2_with fail
    go_loopw [3] (fun sv wr => ∃ (v : Value) (j : Nat) (us : List Tr) (t : Tr) (f : Nat), v = sv ∧ Stp pb s b j n W0 wr ∧ j ≤ s.size ∧ Kds wr W0.heap.size v (us ++ [t]) ∧ us.length ≤ j ∧ (if st1 s j 124 then chF (grpF s b d) s b f (j + 1) (us ++ [t]) else .ok (togF 6 (us ++ [t])) j) = R ∧ (j < s.size → s.size - (j + 1) < f)) (fun _ wr => s.size - (match wr.cell? ⟨pb, 2, none⟩ with | some v => (RowKit.intOf v).toNat | none => 0))
    case atStart => exact ⟨_, k0, [], t, s.size, rfl, S1.out, hk0.2, K1.out, by simp, HR0.out, fun _ => by omega⟩
    case round =>
      obtain ⟨v, j, us, t, f, rfl, hS, hj, hK, hkl, hR2, hf⟩ := hrel
      have HSr := Lib.hid hS
      have q2r := hS.prs.four.2.2.1
      obtain ⟨p1, e1⟩ : ∃ p, st1 s j 124 = p := ⟨_, rfl⟩
      have CT := Lib.hid (rx_take1 hS.prs hj hs 124 p1 e1)
      obtain ⟨A, cp, hv⟩ := hK.slice
      obtain ⟨xs, ho, hx⟩ := hK
      have KI : Kds wr W0.heap.size v (us ++ [t]) := ⟨xs, ho, hx⟩
      have HKW := Lib.hid (fun (w : World) (o : Off2 pb pb wr w) => KI.kept (w' := w) (fun g hg hp => o.block g hg (by omega) (by omega)))
      have HOW := Lib.hid (fun (w : World) (o : Off2 pb pb wr w) => own_off ho o hlt0)
      have HXW := Lib.hid (fun (w : World) (o : Off2 pb pb wr w) (jj : Nat) (t' : Tr) (ht : (us ++ [t])[jj]? = some t') => (hx jj t' ht).kept (w' := w) (P' := fun g => W0.heap.size ≤ g ∧ some g ≠ v.ownBlock) (fun g hg hp => ⟨hp, o.block g hg (by omega) (by omega)⟩))
      have hll : (us ++ [t]).length = us.length + 1 := by simp
      obtain ⟨m1, hm1⟩ : ∃ m1, us.length + 1 = m1 := ⟨_, rfl⟩
      rw [hm1] at hll
      have hv1 : v = .slice A (us ++ [t]).length cp := hv
      rw [hll] at hv
      rw [e1] at hR2
      cases p1 with
      | false =>
        simp only [Bool.false_eq_true, if_false] at hR2
        have HRE := Lib.hid (show R = .ok (togF 6 (us ++ [t])) j from hR2.symm)
        have cto := fun (w : World) (hI : Tr.Ins w (fun g => W0.heap.size ≤ g) (us ++ [t]) A 0) => rx_together hI (by omega) 6 cp
        simp only [hll] at cto
        have CTo := Lib.hid cto
        have HIN := Lib.hid (fun (w : World) (o : Off2 pb pb wr w) => (show Kds w W0.heap.size (.slice A (us ++ [t]).length cp) (us ++ [t]) from hv1 ▸ HKW.out w o).ins)
        obtain ⟨T6, hT6⟩ : ∃ T, togF 6 (us ++ [t]) = T := ⟨_, rfl⟩
        rw [hT6] at HRE CTo
        clear hv1 HKW cto hT6
        subst hv
        clear ho hx KI hR2 hS q2r HOW HXW e1
        go_wp2_with fail
        refine CT.out.mono ?_
        rintro e w2 ⟨rfl, hSt⟩
        have HSt := Lib.hid (show Stp pb s b j n wr w2 from hSt)
        clear hSt CT
        go_wp2_with fail
        refine (CTo.out _ (HIN.out _ HSt.out.off)).mono ?_
        rintro e w4 ⟨vs, rfl, ht, hb⟩
        obtain ⟨kind, code, neg, A3, n3, c3, lo, hi', A2, n2, c2, rfl⟩ := ht.form
        have S4 := (HSr.out.trans HSt.out).below hb
        have F2 := HKF.out _ _ S4
        have FIN := Lib.hid (node_put (HS0.out.trans S4) F2 ht hsA)
        clear ht hb S4 CTo HIN
        obtain ⟨z7, _⟩ := rx_end7 (.int .i64 kind) (.int .i64 code) (.bool neg) (.slice A3 n3 c3) (.int .i64 lo) (.int .i64 hi') (.slice A2 n2 c2) F2
        obtain ⟨⟨y0, y1, y2, y3, y4, y5, y6⟩, _⟩ := z7.seven
        obtain ⟨⟨k0, k1, k2, k3, k4, k5, k6⟩, f0, f1', f2, f3, f4, f5, f6⟩ := F2.seven
        unfold put7 at y0 y1 y2 y3 y4 y5 y6
        clear F2 z7
        go_wp2_with fail
        rw [HRE.out]
        exact bodyPost_ret (v := .agg #[.int .i64 kind, .int .i64 code, .bool neg, .slice A3 n3 c3, .int .i64 lo, .int .i64 hi', .slice A2 n2 c2]) (by simp [results, Tryd.results14, go_sem, y0, y1, y2, y3, y4, y5, y6]) rfl FIN.out
      | true =>
        simp only [if_true] at hR2
        have hj1 := st1_lt e1
        obtain ⟨f1, rfl⟩ : ∃ g, f = g + 1 := ⟨f - 1, by have := hf hj1; omega⟩
        obtain ⟨Q, hQ⟩ : ∃ Q, rowF (grpF s b d) s b (s.size + 1) (j + 1) [] = Q := ⟨_, rfl⟩
        rw [chF, hQ] at hR2
        have CN := fun w (hS : Stp pb s b (j + 1) n W0 w) => HRow.out w (j + 1) hj1 hS
        rw [hQ] at CN
        have CN := Lib.hid CN
        cases Q with
        | bad ka er =>
          have HR2 := Lib.hid (show R = .bad ka er from hR2.symm)
          clear hQ hR2 ho hx KI hS q2r HOW HXW HKW e1 hv1
          go_wp2_with fail
          refine CT.out.mono ?_
          rintro e w2 ⟨rfl, hSt⟩
          have HSt := Lib.hid (show Stp pb s b (j + 1) n wr w2 from hSt)
          clear hSt CT
          go_wp2_with fail
          refine (CN.out _ (HSr.out.trans HSt.out)).mono ?_
          rintro e w3 ⟨rfl, hO⟩
          have HO := Lib.hid hO
          clear hO CN
          go_wp2_with fail
          rw [HR2.out]
          exact ⟨rfl, rfl, HS0.out.off.trans ((HSr.out.trans HSt.out).off.trans HO.out)⟩
        | ok t2 ka =>
          have hjk := row_in GI.out hj1 hQ
          have HR2 := Lib.hid hR2
          have hvb := fun q hq => (ho.lt q hq)
          have HVB := Lib.hid hvb
          clear hQ hR2 ho hx KI hS HKW hvb e1 hv1
          subst hv
          go_wp2_with fail
          refine CT.out.mono ?_
          rintro e w2 ⟨rfl, hSt⟩
          have HSt := Lib.hid (show Stp pb s b (j + 1) n wr w2 from hSt)
          clear hSt CT
          go_wp2_with fail
          refine (CN.out _ (HSr.out.trans HSt.out)).mono ?_
          rintro e w3 ⟨vv, rfl, ⟨vs, rfl, ht⟩, hS3⟩
          obtain ⟨kind, code, neg, A3, n3, c3, lo, hi', A2, n2, c2, rfl⟩ := ht.form
          have S3 := Lib.hid ((HSr.out.trans HSt.out).trans hS3)
          have O3 := Lib.hid (HSt.out.off.trans hS3.off)
          have hz3 := O3.out.size
          have hz4 := HSt.out.off.size
          have hz6 := HSr.out.off.size
          have HT3 := Lib.hid ht
          have OW3 := Lib.hid (HOW.out _ O3.out)
          have OWm := Lib.hid (show w3.ownsRow W0.heap.size 30 7 (.slice A m1 cp) m1 xs from by have h9 := OW3.out; rwa [hll] at h9)
          have RN := Lib.hid (show ∀ jj u, [.int .i64 kind, .int .i64 code, .bool neg, .slice A3 n3 c3, .int .i64 lo, .int .i64 hi', .slice A2 n2 c2][jj]? = some u → (w3.alloc (.cells #[.int .i64 kind, .int .i64 code, .bool neg, .slice A3 n3 c3, .int .i64 lo, .int .i64 hi', .slice A2 n2 c2] 30)).cell? ((⟨w3.heap.size, 0, none⟩ : Addr).add jj) = some u from rx_row_new w3 #[.int .i64 kind, .int .i64 code, .bool neg, .slice A3 n3 c3, .int .i64 lo, .int .i64 hi', .slice A2 n2 c2] 30)
          have hz5 := S3.out.off.size
          clear hS3 ht CN
          go_wp2_with (at_builtin; refine wpList_append_own_at _ rfl _ _ 28 rfl W0.heap.size 30 i0 _ 7 88 Tryd.underlying28 HI.out.1 HI.out.2.1 HI.out.2.2.1 HI.out.2.2.2 rfl (by decide) _ m1 xs rfl (OWm.out.alloc _) ⟨w3.heap.size, 0, none⟩ 1 1 [.int .i64 kind, .int .i64 code, .bool neg, .slice A3 n3 c3, .int .i64 lo, .int .i64 hi', .slice A2 n2 c2] rfl rfl RN.out (by simp [Value.oneCell']) (by unfold maxLen; omega) (by omega) (by simp; omega) ?_)
          rintro v' w4 ho2 hgr _ hvv
          have hX3 := (Below.refl w3.heap.size w3).alloc (Nat.le_refl _) (.cells #[.int .i64 kind, .int .i64 code, .bool neg, .slice A3 n3 c3, .int .i64 lo, .int .i64 hi', .slice A2 n2 c2] 30)
          have ho3 : w4.ownsRow W0.heap.size 30 7 v' ((us ++ [t]).length + 1) (xs ++ (#[.int .i64 kind, .int .i64 code, .bool neg, .slice A3 n3 c3, .int .i64 lo, .int .i64 hi', .slice A2 n2 c2] : Array Value).toList) := by rw [hll]; exact ho2
          have K4 := Lib.hid (Kds.snoc (m := w2.heap.size) OW3.out (HXW.out _ O3.out) HT3.out (fun q hq => Nat.lt_of_lt_of_le (HVB.out q hq).2 hz4) (Nat.le_trans hz6 hz4) hX3 ho3 hgr (by rw [World.size_alloc]; exact hvv))
          have hvb2 : ∀ q, (Value.slice A m1 cp).ownBlock = some q → W0.heap.size ≤ q := fun q hq => (HVB.out q hq).1
          have P4 : Prs w4 pb s b ka n := Blk.grown (Blk.alloc S3.out.prs _) hgr (fun e => by have := hvb2 pb e.symm; omega)
          have S4 := Lib.hid (show Stp pb s b ka n W0 w4 from ⟨P4, off_grown (S3.out.off.trans (Off2.of_below hX3)) hgr hvb2⟩)
          have q4 := P4.four.2.2.1
          clear ho2 ho3 OWm hgr hvv hX3 hvb2 P4 RN OW3 HXW HOW HVB HT3 S3 O3
          go_wp2_with fail
          refine ⟨⟨v', ka, us ++ [t], t2, f1, rfl, S4.out, hjk.2, K4.out, by rw [hll]; omega, HR2.out, fun _ => by have := hf hj1; omega⟩, ?_⟩
          rw [q4, q2r]
          simp [RowKit.intOf]
          omega
end Go.Proofs.YtmfcofiihopbfaaDoor

namespace Go.Proofs.YtmfcofiihopbfaaDoor
open Go.RowKit Go.Lib

set_option maxRecDepth 100000 in
set_option maxHeartbeats 2000000 in
theorem rx_group (s : ByteArray) (b : Bool) : ∀ d, GrpOk s b d
  | 0 => by
    intro W pb i n a h hn hi hs hE
    obtain rfl : n = 40 := by omega
    have CG := Lib.hid (fun W => rx_big pb a W)
    have S0 := (Stp.refl h).alloc (.cells zero7 30)
    obtain ⟨W0, hW0⟩ : ∃ W0, W.alloc (.cells zero7 30) = W0 := ⟨_, rfl⟩
    rw [hW0] at S0
    obtain ⟨_, _, _, p3, _⟩ := S0.prs.four
    have p3' : W0.cell? ⟨pb, 3, none⟩ = some (.int .i64 40) := p3
    have HS0 := Lib.hid S0
    rw [grpF]
    clear h hE S0 p3
    go_enter Tryd.func27, Tryd.ntmps27
    go_wp2_with fail
    refine (CG.out _).mono ?_
    rintro e w1 ⟨rfl, rfl⟩
    clear hW0
    go_wp2_with fail
    exact ⟨rfl, rfl, HS0.out.off⟩
  | d + 1 => by
    intro W pb i n a h hn hi hs hE
    have CW := Lib.hid (fun W => rx_wrong pb a W)
    have hlt := Blk.lt h
    have F0 := Blk.new W zero7 30
    have S0 := (Stp.refl h).alloc (.cells zero7 30)
    have hE0 := hE.step S0 hlt
    have hsz0 : (W.alloc (.cells zero7 30)).heap.size = W.heap.size + 1 := by simp
    obtain ⟨W0, hW0⟩ : ∃ W0, W.alloc (.cells zero7 30) = W0 := ⟨_, rfl⟩
    rw [hW0] at F0 S0 hE0 hsz0
    have hlt0 : pb < W0.heap.size := by omega
    have hsA : W.heap.size < W0.heap.size := by omega
    have hneB : pb ≠ W.heap.size := by omega
    clear hsz0
    obtain ⟨n1, hn1⟩ : ∃ n1, n + 1 = n1 := ⟨_, rfl⟩
    have S1 : Stp pb s b i n1 W0 (W0.setCell ⟨pb, 3, none⟩ (.int .i64 (n1 : Int))) := (Stp.refl S0.prs).open n1
    have hw1 : IntKind.i64.wrap ((n : Int) + 1) = (n1 : Int) := by simp [IntKind.wrap, IntKind.bits, IntKind.signed]; omega
    have hw2 : IntKind.i64.wrap ((n1 : Int) - 1) = (n : Int) := by simp [IntKind.wrap, IntKind.bits, IntKind.signed]; omega
    have hn40 : ((n : Int) == 40) = false := by rw [beq_eq_false_iff_ne]; omega
    obtain ⟨_, _, _, p3, _, f3⟩ := S0.prs.four
    have CC := rx_choice (rx_group s b d) (show n1 + d = 40 by omega) S1.prs hi hs (hE0.step S1 hlt0)
    have HS0 := Lib.hid S0
    obtain ⟨W1, hW1⟩ : ∃ W1, W0.setCell ⟨pb, 3, none⟩ (.int .i64 (n1 : Int)) = W1 := ⟨_, rfl⟩
    rw [hW1] at S1 CC
    have HS1 := Lib.hid S1
    have hs1 := S1.off.size
    have HKF := Lib.hid (fun (w : World) (j m : Nat) (hS : Stp pb s b j m W0 w) => show Blk w W.heap.size zero7 30 from ⟨(hS.off.block _ F0.lt (Ne.symm hneB) (Ne.symm hneB)).trans F0.row⟩)
    have CI := Lib.hid (fun (x : Tr) (k : Nat) (hh : chD s b d i = .ok x k) => chD_in hi hh)
    have e0 : grpF s b (d + 1) a i = match chD s b d i with | .bad k e => .bad k e | .ok t k => if st1 s k 41 then .ok t (k + 1) else .bad a 90 := by
      rw [grpF]
      rfl
    rw [e0]
    clear h hE hE0 S0 F0 S1 e0
    cases hQ : chD s b d i with
    | bad ka er =>
      rw [hQ] at CC
      have CC := Lib.hid CC
      clear hQ CI
      go_enter Tryd.func27, Tryd.ntmps27
      go_wp2_with fail
      refine CC.out.mono ?_
      rintro e w2 ⟨rfl, hO⟩
      have HO := Lib.hid hO
      clear hO CC hW0 hW1
      go_wp2_with fail
      exact ⟨rfl, rfl, HS0.out.off.trans (HS1.out.off.trans HO.out)⟩
    | ok t k =>
      have hk := CI.out t k hQ
      rw [hQ] at CC
      have CC := Lib.hid CC
      obtain ⟨p1, e1⟩ : ∃ p, st1 s k 41 = p := ⟨_, rfl⟩
      have CT := Lib.hid (fun w (hS : Stp pb s b k n1 W0 w) => rx_take1 hS.prs hk.2 hs 41 p1 e1)
      dsimp only
      rw [e1]
      clear hQ CI e1
      cases p1 with
      | false =>
        simp only [Bool.false_eq_true, if_false]
        go_enter Tryd.func27, Tryd.ntmps27
        go_wp2_with fail
        refine CC.out.mono ?_
        rintro e w2 ⟨vv, rfl, ⟨vs, rfl, ht⟩, hS2⟩
        obtain ⟨kind, code, neg, A3, n3, c3, lo, hi', A2, n2, c2, rfl⟩ := ht.form
        have S2 := (HS1.out.trans hS2).alloc (.cells #[.int .i64 kind, .int .i64 code, .bool neg, .slice A3 n3 c3, .int .i64 lo, .int .i64 hi', .slice A2 n2 c2] 30)
        have HS2 := Lib.hid S2
        clear hS2 S2 ht CC hW0 hW1
        go_wp2_with fail
        refine (CT.out _ HS2.out).mono ?_
        rintro e w3 ⟨rfl, hS⟩
        have HS3 := Lib.hid (HS2.out.trans hS)
        clear hS CT
        go_wp2_with fail
        refine (CW.out _).mono ?_
        rintro e w4 ⟨rfl, rfl⟩
        go_wp2_with fail
        exact ⟨rfl, rfl, HS0.out.off.trans HS3.out.off⟩
      | true =>
        simp only [if_true]
        go_enter Tryd.func27, Tryd.ntmps27
        go_wp2_with fail
        refine CC.out.mono ?_
        rintro e w2 ⟨vv, rfl, ⟨vs, rfl, ht⟩, hS2⟩
        obtain ⟨kind, code, neg, A3, n3, c3, lo, hi', A2, n2, c2, rfl⟩ := ht.form
        have hz2 := (HS1.out.trans hS2).off.size
        have hz2b := hS2.off.size
        have S2 := (HS1.out.trans hS2).alloc (.cells #[.int .i64 kind, .int .i64 code, .bool neg, .slice A3 n3 c3, .int .i64 lo, .int .i64 hi', .slice A2 n2 c2] 30)
        have FT := Blk.new w2 #[.int .i64 kind, .int .i64 code, .bool neg, .slice A3 n3 c3, .int .i64 lo, .int .i64 hi', .slice A2 n2 c2] 30
        have hbT := (Below.refl w2.heap.size w2).alloc (Nat.le_refl _) (.cells #[.int .i64 kind, .int .i64 code, .bool neg, .slice A3 n3 c3, .int .i64 lo, .int .i64 hi', .slice A2 n2 c2] 30)
        have HS2 := Lib.hid S2
        have HT := Lib.hid (ht.kept (P' := fun c => W0.heap.size ≤ c ∧ c < w2.heap.size) (w' := w2.alloc (.cells #[.int .i64 kind, .int .i64 code, .bool neg, .slice A3 n3 c3, .int .i64 lo, .int .i64 hi', .slice A2 n2 c2] 30)) (fun g hg hp => ⟨⟨Nat.le_trans hs1 hp, hg⟩, hbT.block g hg⟩))
        have HFT := Lib.hid FT
        clear hS2 S2 ht CC hW0 hW1 FT hbT
        go_wp2_with fail
        refine (CT.out _ HS2.out).mono ?_
        rintro e w3 ⟨rfl, hS⟩
        have hS : Stp pb s b (k + 1) n1 (w2.alloc (.cells #[.int .i64 kind, .int .i64 code, .bool neg, .slice A3 n3 c3, .int .i64 lo, .int .i64 hi', .slice A2 n2 c2] 30)) w3 := hS
        have S3 := HS2.out.trans hS
        have pbne : pb < w2.heap.size := by omega
        have FT3 : Blk w3 w2.heap.size #[.int .i64 kind, .int .i64 code, .bool neg, .slice A3 n3 c3, .int .i64 lo, .int .i64 hi', .slice A2 n2 c2] 30 := ⟨(hS.off.block _ HFT.out.lt (by omega) (by omega)).trans HFT.out.row⟩
        have HT3 := HT.out.kept (w' := w3) (P' := fun c => W0.heap.size ≤ c) (fun g hg hp => ⟨hp.1, hS.off.block g hg (by omega) (by omega)⟩)
        have S4 := S3.open n
        have hE4 := HKF.out _ _ _ S4
        obtain ⟨_, _, _, r3, _, g3⟩ := S3.prs.four
        have FT4 : Blk (w3.setCell ⟨pb, 3, none⟩ (.int .i64 (n : Int))) w2.heap.size #[.int .i64 kind, .int .i64 code, .bool neg, .slice A3 n3 c3, .int .i64 lo, .int .i64 hi', .slice A2 n2 c2] 30 := Blk.other FT3 (by omega)
        have HT4 := HT3.kept (w' := w3.setCell ⟨pb, 3, none⟩ (.int .i64 (n : Int))) (P' := fun c => W0.heap.size ≤ c) (fun g hg hp => ⟨hp, Below.heap_setCell w3 ⟨pb, 3, none⟩ _ g (by have hp : W0.heap.size ≤ g := hp; show g ≠ pb; omega)⟩)
        obtain ⟨w5, hw5⟩ : ∃ w5, w3.setCell ⟨pb, 3, none⟩ (.int .i64 (n : Int)) = w5 := ⟨_, rfl⟩
        rw [hw5] at S4 hE4 FT4 HT4
        have F2 := hE4
        have FIN := Lib.hid (node_put (HS0.out.trans S4) F2 HT4 hsA)
        obtain ⟨z7, _⟩ := rx_end7 (.int .i64 kind) (.int .i64 code) (.bool neg) (.slice A3 n3 c3) (.int .i64 lo) (.int .i64 hi') (.slice A2 n2 c2) F2
        obtain ⟨⟨y0, y1, y2, y3, y4, y5, y6⟩, _⟩ := z7.seven
        obtain ⟨⟨k0, k1, k2, k3, k4, k5, k6⟩, f0, f1, f2, f3', f4, f5, f6⟩ := F2.seven
        obtain ⟨⟨t0, t1, t2, t3, t4, t5, t6⟩, _⟩ := FT4.seven
        unfold put7 at y0 y1 y2 y3 y4 y5 y6
        clear F2 z7 hS S3 FT3 HT3 S4 hE4 FT4 HT4 HT HFT HKF CT
        go_wp2_with fail
        exact bodyPost_ret (v := .agg #[.int .i64 kind, .int .i64 code, .bool neg, .slice A3 n3 c3, .int .i64 lo, .int .i64 hi', .slice A2 n2 c2]) (by simp [results, Tryd.results27, go_sem, y0, y1, y2, y3, y4, y5, y6]) rfl FIN.out
end Go.Proofs.YtmfcofiihopbfaaDoor

namespace Go.Proofs.YtmfcofiihopbfaaDoor
open Go.RowKit Go.Lib

set_option maxRecDepth 100000 in
set_option maxHeartbeats 1000000 in
theorem rx_idle (pt pa pe : Addr) (w : World) :
    CallsD Tryd.prog 12 #[.pointer (some pt), .pointer (some pa), .pointer (some pe)] .returning w fun e u' w' => e = .returned (.tuple #[]) ∧ u' = .returning ∧ w' = w := by
  refine callsD_of_wpS Tryd.func12 rfl fun c₀ cs hu => ?_
  apply wpS_seq
  apply wpS_region
  simp [wpOpsS, go_sem, recoverD, hu, Tryd.ntmps12, Exit.thenS]
  refine wpS_of_wp ?_
  cases c₀
  go_wp2_with fail
  simp_all [bodyPostS, results, Tryd.results12]

theorem seven_of {v : Array Value} (h : v.size = 7) : ∃ a b c d e f g, v = #[a, b, c, d, e, f, g] := by
  refine ⟨v[0], v[1], v[2], v[3], v[4], v[5], v[6], Array.ext (by simp [h]) fun i h1 h2 => ?_⟩
  match i, h2 with
  | 0, _ => rfl
  | 1, _ => rfl
  | 2, _ => rfl
  | 3, _ => rfl
  | 4, _ => rfl
  | 5, _ => rfl
  | 6, _ => rfl
theorem caught_end {W : World} {pt pa pe : Nat} {x y at0 er : Int} {v0 v1 v2 v3 v4 v5 v6 : Value} (h : Blk W pt #[v0, v1, v2, v3, v4, v5, v6] 30 ∧ Blk W pa #[.int .i64 x] 3 ∧ Blk W pe #[.int .i64 y] 23) (n1 : pt ≠ pa) (n2 : pt ≠ pe) (n3 : pa ≠ pe) :
    Blk ((((put7 W pt (.int .i64 0) (.int .i64 0) (.bool false) (.slice none 0 0) (.int .i64 0) (.int .i64 0) (.slice none 0 0)).setCell ⟨pa, 0, none⟩ (.int .i64 at0)).setCell ⟨pe, 0, none⟩ (.int .i64 er)).drew) pt zero7 30 ∧
    Blk ((((put7 W pt (.int .i64 0) (.int .i64 0) (.bool false) (.slice none 0 0) (.int .i64 0) (.int .i64 0) (.slice none 0 0)).setCell ⟨pa, 0, none⟩ (.int .i64 at0)).setCell ⟨pe, 0, none⟩ (.int .i64 er)).drew) pa #[.int .i64 at0] 3 ∧
    Blk ((((put7 W pt (.int .i64 0) (.int .i64 0) (.bool false) (.slice none 0 0) (.int .i64 0) (.int .i64 0) (.slice none 0 0)).setCell ⟨pa, 0, none⟩ (.int .i64 at0)).setCell ⟨pe, 0, none⟩ (.int .i64 er)).drew) pe #[.int .i64 er] 23 := by
  obtain ⟨h0, h1, h2⟩ := h
  obtain ⟨z7, o7⟩ := rx_end7 (.int .i64 0) (.int .i64 0) (.bool false) (.slice none 0 0) (.int .i64 0) (.int .i64 0) (.slice none 0 0) h0
  have k1 := h1.off2 o7 n1.symm n1.symm
  have k2 := h2.off2 o7 n2.symm n2.symm
  obtain ⟨W1, hW1⟩ : ∃ W1, put7 W pt (.int .i64 0) (.int .i64 0) (.bool false) (.slice none 0 0) (.int .i64 0) (.int .i64 0) (.slice none 0 0) = W1 := ⟨_, rfl⟩
  rw [hW1] at z7 k1 k2 ⊢
  have a1 := Blk.set (j := 0) (u := .int .i64 at0) k1
  have a0 := z7.other (j := 0) (u := .int .i64 at0) n1
  have a2 := k2.other (j := 0) (u := .int .i64 at0) n3.symm
  have b2 := Blk.set (j := 0) (u := .int .i64 er) a2
  have b0 := a0.other (j := 0) (u := .int .i64 er) n2
  have b1 := a1.other (j := 0) (u := .int .i64 er) n3
  exact ⟨⟨b0.row⟩, ⟨b1.row⟩, ⟨b2.row⟩⟩
theorem caught_below (W : World) {pt pa pe B : Nat} {at0 er : Int} (b1 : B ≤ pt) (b2 : B ≤ pa) (b3 : B ≤ pe) (b4 : B ≤ W.heap.size) :
    Below B W ((((put7 W pt (.int .i64 0) (.int .i64 0) (.bool false) (.slice none 0 0) (.int .i64 0) (.int .i64 0) (.slice none 0 0)).setCell ⟨pa, 0, none⟩ (.int .i64 at0)).setCell ⟨pe, 0, none⟩ (.int .i64 er)).drew) := by
  have o7 : Off2 pt pt W (put7 W pt (.int .i64 0) (.int .i64 0) (.bool false) (.slice none 0 0) (.int .i64 0) (.int .i64 0) (.slice none 0 0)) :=
    ((((((Off2.setCell W pt pt 0 _).trans (Off2.setCell _ pt pt 1 _)).trans (Off2.setCell _ pt pt 2 _)).trans (Off2.setCell _ pt pt 3 _)).trans (Off2.setCell _ pt pt 4 _)).trans (Off2.setCell _ pt pt 5 _)).trans (Off2.setCell _ pt pt 6 _)
  have h1 := o7.below b1 b1 b4
  obtain ⟨W1, hW1⟩ : ∃ W1, put7 W pt (.int .i64 0) (.int .i64 0) (.bool false) (.slice none 0 0) (.int .i64 0) (.int .i64 0) (.slice none 0 0) = W1 := ⟨_, rfl⟩
  rw [hW1] at h1 ⊢
  have h2 := (Off2.setCell W1 pa pa 0 (.int .i64 at0)).below b2 b2 (Nat.le_trans b4 h1.size)
  have h3 := (Off2.setCell (W1.setCell ⟨pa, 0, none⟩ (.int .i64 at0)) pe pe 0 (.int .i64 er)).below b3 b3 (Nat.le_trans (Nat.le_trans b4 h1.size) h2.size)
  exact below_drewN ((h1.trans h2).trans h3) 1
set_option maxRecDepth 100000 in
set_option maxHeartbeats 1000000 in
theorem rx_caught (pt pa pe : Nat) (at0 er x y : Int) (older : List PanicEntry) (w : World) (tv : Array Value) (ht : Blk w pt tv 30) (h7 : tv.size = 7) (ha : Blk w pa #[.int .i64 x] 3) (he : Blk w pe #[.int .i64 y] 23) (n1 : pt ≠ pa) (n2 : pt ≠ pe) (n3 : pa ≠ pe) :
    CallsD Tryd.prog 12 #[.pointer (some ⟨pt, 0, none⟩), .pointer (some ⟨pa, 0, none⟩), .pointer (some ⟨pe, 0, none⟩)] (.panicking ({ v := .iface 44 (.agg #[.int .i64 at0, .int .i64 er]), recovered := false } :: older)) w fun e u' w' => e = .returned (.tuple #[]) ∧ u' = .panicking ({ v := .iface 44 (.agg #[.int .i64 at0, .int .i64 er]), recovered := true } :: older) ∧ (∀ B, B ≤ pt → B ≤ pa → B ≤ pe → B ≤ w.heap.size → Below B w w') ∧ Blk w' pt zero7 30 ∧ Blk w' pa #[.int .i64 at0] 3 ∧ Blk w' pe #[.int .i64 er] 23 := by
  refine callsD_of_wpS Tryd.func12 rfl fun c₀ cs hu => ?_
  apply wpS_seq
  apply wpS_region
  simp [wpOpsS, go_sem, recoverD, hu, Tryd.ntmps12, Exit.thenS]
  refine wpS_of_wp (wp_mono (Q := fun e a w' => e = .normal ∧ a.defers = [] ∧ (∀ B, B ≤ pt → B ≤ pa → B ≤ pe → B ≤ w.heap.size → Below B w w') ∧ Blk w' pt zero7 30 ∧ Blk w' pa #[.int .i64 at0] 3 ∧ Blk w' pe #[.int .i64 er] 23) ?_ ?_)
  · clear hu
    have hta : ∀ w, (Instr.typeAssert (.iface 44 (.agg #[.int .i64 at0, .int .i64 er])) 20 44 true).run Tryd.prog w = .ok (.tuple #[.agg #[.int .i64 at0, .int .i64 er], .bool true]) w := fun _ => rfl
    have htm : (#[.pointer (some ⟨pt, 0, none⟩), .pointer (some ⟨pa, 0, none⟩), .pointer (some ⟨pe, 0, none⟩)] ++ (Array.replicate 14 undef).setIfInBounds 3 (.iface 44 (.agg #[.int .i64 at0, .int .i64 er])) : Array Value) = #[.pointer (some ⟨pt, 0, none⟩), .pointer (some ⟨pa, 0, none⟩), .pointer (some ⟨pe, 0, none⟩), undef, undef, undef, .iface 44 (.agg #[.int .i64 at0, .int .i64 er]), undef, undef, undef, undef, undef, undef, undef, undef, undef, undef] := rfl
    rw [htm]
    clear htm
    go_wp2_with fail
    have lt := ht.lt
    have la := ha.lt
    have le := he.lt
    have F := Blk.new w #[.int .i64 at0, .int .i64 er] 44
    have ht' := ht.alloc (.cells #[.int .i64 at0, .int .i64 er] 44)
    have ha' := ha.alloc (.cells #[.int .i64 at0, .int .i64 er] 44)
    have he' := he.alloc (.cells #[.int .i64 at0, .int .i64 er] 44)
    obtain ⟨v0, v1, v2, v3, v4, v5, v6, rfl⟩ := seven_of h7
    have f0 := Blk.cell F 0
    have f1 := Blk.cell F 1
    obtain ⟨⟨q0, q1, q2, q3, q4, q5, q6⟩, r0, r1, r2, r3, r4, r5, r6⟩ := ht'.seven
    have a0 := Blk.cell ha' 0
    have e0 := Blk.cell he' 0
    have a1 := Blk.fro ha' 0
    have e1 := Blk.fro he' 0
    have m1 : pt ≠ w.heap.size := by omega
    have m2 : pa ≠ w.heap.size := by omega
    have m3 : pe ≠ w.heap.size := by omega
    obtain ⟨W, hW⟩ : ∃ W, w.alloc (.cells #[.int .i64 at0, .int .i64 er] 44) = W := ⟨_, rfl⟩
    rw [hW] at f0 f1 a0 e0 a1 e1 q0 q1 q2 q3 q4 q5 q6 r0 r1 r2 r3 r4 r5 r6 ⊢
    have HF0 : (Blk W pt #[v0, v1, v2, v3, v4, v5, v6] 30 ∧ Blk W pa #[.int .i64 x] 3 ∧ Blk W pe #[.int .i64 y] 23) := by rw [← hW]; exact ⟨ht', ha', he'⟩
    have HF := Lib.hid HF0
    have HBW : Below w.heap.size w W := by rw [← hW]; exact (Below.refl _ _).alloc (Nat.le_refl _) _
    have HB := Lib.hid HBW
    clear HBW
    clear HF0
    obtain ⟨g, hg⟩ : ∃ g, w.heap.size = g := ⟨_, rfl⟩
    rw [hg] at f0 f1 m1 m2 m3 ⊢
    clear hta ht ha he ht' ha' he' F hW hg lt la le h7
    simp at f0 f1 a0 e0
    go_region
    exact ⟨rfl, rfl, fun B b1 b2 b3 b4 => (HB.out.mono b4).trans (caught_below W b1 b2 b3 (Nat.le_trans b4 HB.out.size)), caught_end HF.out n1 n2 n3⟩
  · rintro e a w' ⟨rfl, h0, hB, h1, h2, h3⟩
    cases c₀
    simp_all [bodyPostS, results, Tryd.results12]
end Go.Proofs.YtmfcofiihopbfaaDoor
