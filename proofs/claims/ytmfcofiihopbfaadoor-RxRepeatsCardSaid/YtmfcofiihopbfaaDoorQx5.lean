/- Several texts in one (Contracts of layer 9: when two trees are the same; Plain: an interval behind a letter (layer 9), and the examples; Contracts of layer 9's laws: trees that a law writes; the document's example; The walk of the law RxNames; What the rows of layer 9 give: the library's tables and a number of its own; Contracts of layer 1: the bytes of a code, in the program and in the definition; Contracts of layer 9's laws: digits of a number below a hundred; The walk of the law RxRepeats (printed by tools/gen_rxrep.py)). -/
import Derived.Shelf.Vars
import Derived.Test.YtmfcofiihopbfaaDoorRows
import Derived.WalkKit
import Derived.WalkSpells
import Derived.WalkLawsBesides
import Derived.Lib.Hide
import Derived.Test.YtmfcofiihopbfaaDoorShelf
import Derived.Test.YtmfcofiihopbfaaDoorQx2
import Derived.Test.YtmfcofiihopbfaaDoorQx4
namespace Go.Proofs.YtmfcofiihopbfaaDoor
open Go.RowKit Go.Lib

theorem RgIn.at {w : World} {P : Nat → Prop} {set : List (Int × Int)} {A : Option Addr} {n c : Nat} (h : RgIn w P set (.slice A n c)) (j : Nat) (x y : Int) (hj : set[j]? = some (x, y)) :
    ∃ g, A = some ⟨g, 0, none⟩ ∧ P g ∧ w.cell? ⟨g, j * 2, none⟩ = some (.int .i64 x) ∧ w.cell? ⟨g, j * 2 + 1, none⟩ = some (.int .i64 y) := by
  obtain ⟨A', c', e, _, h⟩ := h
  injection e with e1 e2 e3
  subst e1
  exact h j (x, y) hj
set_option maxRecDepth 100000 in
set_option maxHeartbeats 4000000 in
/-- Same, of two equal trees no greater than so. -/
theorem rx_same_n : ∀ (N : Nat) (t : Tr) (P P' : Nat → Prop) (vs us : Array Value) (W : World), SizeOf.sizeOf t ≤ N → TrV W P t vs → TrV W P' t us → Calls Tryd.prog 9 #[.agg vs, .agg us] W fun e w' => e = .returned (.bool true) ∧ Below W.heap.size W w'
  | 0, t, _, _, _, _, _, h, _, _ => by cases t; simp at h
  | N + 1, .mk kind code neg set lo hi kids, P, P', vs, us, W, hN, h, h' => by
    obtain ⟨sv, A, cap, rfl, hkl, hR, hI⟩ := h.open
    obtain ⟨A3, c3, rfl⟩ := rx_store_set hR
    obtain ⟨sv', B, bap, rfl, _, hR', hI'⟩ := h'.open
    obtain ⟨B3, d3, rfl⟩ := rx_store_set hR'
    have hsl : set.length ≤ 100000 := by obtain ⟨_, _, _, q, _⟩ := hR; exact q
    have F1 := Blk.new W #[.int .i64 kind, .int .i64 code, .bool neg, .slice A3 set.length c3, .int .i64 lo, .int .i64 hi, .slice A kids.length cap] 30
    have hb1 := (Below.refl W.heap.size W).alloc (Nat.le_refl _) (.cells #[.int .i64 kind, .int .i64 code, .bool neg, .slice A3 set.length c3, .int .i64 lo, .int .i64 hi, .slice A kids.length cap] 30)
    obtain ⟨W1, hW1⟩ : ∃ W1, W.alloc (.cells #[.int .i64 kind, .int .i64 code, .bool neg, .slice A3 set.length c3, .int .i64 lo, .int .i64 hi, .slice A kids.length cap] 30) = W1 := ⟨_, rfl⟩
    rw [hW1] at F1 hb1
    have F2 := Blk.new W1 #[.int .i64 kind, .int .i64 code, .bool neg, .slice B3 set.length d3, .int .i64 lo, .int .i64 hi, .slice B kids.length bap] 30
    have hb2 := hb1.alloc hb1.size (.cells #[.int .i64 kind, .int .i64 code, .bool neg, .slice B3 set.length d3, .int .i64 lo, .int .i64 hi, .slice B kids.length bap] 30)
    have F1' := F1.alloc (.cells #[.int .i64 kind, .int .i64 code, .bool neg, .slice B3 set.length d3, .int .i64 lo, .int .i64 hi, .slice B kids.length bap] 30)
    obtain ⟨W2, hW2⟩ : ∃ W2, W1.alloc (.cells #[.int .i64 kind, .int .i64 code, .bool neg, .slice B3 set.length d3, .int .i64 lo, .int .i64 hi, .slice B kids.length bap] 30) = W2 := ⟨_, rfl⟩
    rw [hW2] at F2 hb2 F1'
    have HK := Lib.hid (fun (w : World) (hb : Below W2.heap.size W2 w) => And.intro (F1'.below hb F1'.lt).seven.1 (F2.below hb F2.lt).seven.1)
    have HB2 := Lib.hid hb2
    have hs2 := hb2.size
    have IH := Lib.hid (fun (t : Tr) (ht : t ∈ kids) (Q Q' : Nat → Prop) (vs us : Array Value) (w : World) (hv : TrV w Q t vs) (hu : TrV w Q' t us) => rx_same_n N t _ _ vs us w (by have := size_kid (kind := kind) (code := code) (neg := neg) (set := set) (lo := lo) (hi := hi) ht; omega) hv hu)
    have HI := Lib.hid (fun (w : World) (hb : Below W.heap.size W w) => Tr.Ins.keep (w' := w) (P' := fun g => g < W.heap.size ∧ P g) (fun g hg hp => ⟨⟨hg, hp⟩, hb.block g hg⟩) kids A 0 hI)
    have HJ := Lib.hid (fun (w : World) (hb : Below W.heap.size W w) => Tr.Ins.keep (w' := w) (P' := fun g => g < W.heap.size ∧ P' g) (fun g hg hp => ⟨⟨hg, hp⟩, hb.block g hg⟩) kids B 0 hI')
    have HR := Lib.hid (fun (w : World) (hb : Below W.heap.size W w) => RgIn.kept (w' := w) (P' := P) hR (fun g hg hp => ⟨hp, hb.block g hg⟩))
    have HS := Lib.hid (fun (w : World) (hb : Below W.heap.size W w) => RgIn.kept (w' := w) (P' := P') hR' (fun g hg hp => ⟨hp, hb.block g hg⟩))
    obtain ⟨⟨x0, x1, x2, x3, x4, x5, x6⟩, y0, y1, y2, y3, y4, y5, y6⟩ := HK.out W2 (Below.refl _ _)
    obtain ⟨ml, hml⟩ : ∃ ml, kids.length = ml := ⟨_, rfl⟩
    obtain ⟨sl, hsl2⟩ : ∃ sl, set.length = sl := ⟨_, rfl⟩
    rw [hml] at hkl
    rw [hsl2] at hsl
    simp only [hml, hsl2] at HK HR HS hW1 hW2 x3 x6 y3 y6
    have HML := Lib.hid hml
    have HSL := Lib.hid hsl2
    simp only [hml, hsl2]
    clear h h' hR hI hR' hI' F1 F2 F1' hb1 hb2 hN hml hsl2
    go_enter Tryd.func9, Tryd.ntmps9
    go_wp2_with fail
    clear hW1 hW2 x0 x1 x2 x3 x4 x5 x6 y0 y1 y2 y3 y4 y5 y6
    go_loopw [5] (fun iv wr => ∃ k : Nat, iv = .int .i64 (k : Int) ∧ k ≤ sl ∧ Below W2.heap.size W2 wr) (fun iv _ => sl - (RowKit.intOf iv).toNat)
    case atStart => exact ⟨0, rfl, Nat.zero_le _, Below.refl _ _⟩
    case round =>
      obtain ⟨k, rfl, hk, hB⟩ := hrel
      obtain ⟨⟨x0, x1, x2, x3, x4, x5, x6⟩, y0, y1, y2, y3, y4, y5, y6⟩ := HK.out wr hB
      have HB := Lib.hid hB
      by_cases hlt : k < sl
      · obtain ⟨⟨x, y⟩, hxy⟩ : ∃ r, set[k]? = some r := ⟨_, List.getElem?_eq_getElem (by rw [HSL.out]; exact hlt)⟩
        obtain ⟨g, rfl, _, g0, g1⟩ := (HR.out wr (HB2.out.trans (hB.mono hs2))).at k x y hxy
        obtain ⟨q, rfl, _, q0, q1⟩ := (HS.out wr (HB2.out.trans (hB.mono hs2))).at k x y hxy
        obtain ⟨k1, hk1⟩ : ∃ k1, k + 1 = k1 := ⟨_, rfl⟩
        have hw2 : IntKind.i64.wrap ((k : Int) + 1) = (k1 : Int) := by simp [IntKind.wrap, IntKind.bits, IntKind.signed]; omega
        have hbl : (k : Int) < (sl : Int) := by omega
        have hb0 : ¬ (k : Int) < 0 := by omega
        have FIN := Lib.hid (fun n => show Below W2.heap.size W2 (wr.drewN n) from below_drewN hB n)
        clear hxy hB IH HI HJ HR HS
        go_wp2_with fail
        go_quiet (fail)
        go_wp2_with fail
        refine ⟨⟨k1, rfl, by omega, FIN.out _⟩, ?_⟩
        simp [RowKit.intOf]
        omega
      · obtain rfl : k = sl := by omega
        clear hB
        go_wp2_with fail
        go_loopw [6] (fun iv wr => ∃ k : Nat, iv = .int .i64 (k : Int) ∧ k ≤ ml ∧ Below W2.heap.size W2 wr) (fun iv _ => ml - (RowKit.intOf iv).toNat)
        case atStart => exact ⟨0, rfl, Nat.zero_le _, HB.out⟩
        case round =>
          obtain ⟨j, rfl, hj, hBj⟩ := hrel
          clear x0 x1 x2 x3 x4 x5 x6 y0 y1 y2 y3 y4 y5 y6
          obtain ⟨⟨x0, x1, x2, x3, x4, x5, x6⟩, y0, y1, y2, y3, y4, y5, y6⟩ := HK.out wr hBj
          have HBj := Lib.hid hBj
          have hbW := HB2.out.trans (hBj.mono hs2)
          have HBW := Lib.hid hbW
          by_cases hlt2 : j < ml
          · obtain ⟨u, hu⟩ : ∃ u, kids[j]? = some u := ⟨_, List.getElem?_eq_getElem (by rw [HML.out]; exact hlt2)⟩
            have hmem : u ∈ kids := List.mem_of_getElem? hu
            obtain ⟨g, kind1, code1, neg1, A31, n31, c31, lo1, hi1, A21, n21, c21, hA, ⟨u0, u1, u2, u3, u4, u5, u6⟩, hT⟩ := TrV.at (HI.out wr hbW) j u hu
            subst hA
            obtain ⟨q, kind2, code2, neg2, A32, n32, c32, lo2, hi2, A22, n22, c22, hA, ⟨v0, v1, v2, v3, v4, v5, v6⟩, hT'⟩ := TrV.at (HJ.out wr hbW) j u hu
            subst hA
            have CS := Lib.hid (fun (w : World) (hb : Below wr.heap.size wr w) => IH.out u hmem _ _ _ _ w (hT.kept (P' := fun g => g < W.heap.size ∧ P g) (fun g hg hp => ⟨hp, hb.block g hg⟩)) (hT'.kept (P' := fun g => g < W.heap.size ∧ P' g) (fun g hg hp => ⟨hp, hb.block g hg⟩)))
            have KP := Lib.hid (fun (w : World) (hb : Below wr.heap.size wr w) => show (fun w' => (w'.cell? ⟨W.heap.size, 6, none⟩ = some (.slice (some ⟨g, 0, none⟩) ml cap) ∧ w'.cell? ⟨W1.heap.size, 6, none⟩ = some (.slice (some ⟨q, 0, none⟩) ml bap)) ∧ (w'.cell? ⟨g, j * 7, none⟩ = some (.int .i64 kind1) ∧ w'.cell? ⟨g, j * 7 + 1, none⟩ = some (.int .i64 code1) ∧ w'.cell? ⟨g, j * 7 + 2, none⟩ = some (.bool neg1) ∧ w'.cell? ⟨g, j * 7 + 3, none⟩ = some (.slice A31 n31 c31) ∧ w'.cell? ⟨g, j * 7 + 4, none⟩ = some (.int .i64 lo1) ∧ w'.cell? ⟨g, j * 7 + 5, none⟩ = some (.int .i64 hi1) ∧ w'.cell? ⟨g, j * 7 + 6, none⟩ = some (.slice A21 n21 c21)) ∧ (w'.cell? ⟨q, j * 7, none⟩ = some (.int .i64 kind2) ∧ w'.cell? ⟨q, j * 7 + 1, none⟩ = some (.int .i64 code2) ∧ w'.cell? ⟨q, j * 7 + 2, none⟩ = some (.bool neg2) ∧ w'.cell? ⟨q, j * 7 + 3, none⟩ = some (.slice A32 n32 c32) ∧ w'.cell? ⟨q, j * 7 + 4, none⟩ = some (.int .i64 lo2) ∧ w'.cell? ⟨q, j * 7 + 5, none⟩ = some (.int .i64 hi2) ∧ w'.cell? ⟨q, j * 7 + 6, none⟩ = some (.slice A22 n22 c22))) w from ⟨⟨(hb.cell (World.block_lt_of_cell? wr _ x6)).trans x6, (hb.cell (World.block_lt_of_cell? wr _ y6)).trans y6⟩, ⟨(hb.cell (World.block_lt_of_cell? wr _ u0)).trans u0, (hb.cell (World.block_lt_of_cell? wr _ u1)).trans u1, (hb.cell (World.block_lt_of_cell? wr _ u2)).trans u2, (hb.cell (World.block_lt_of_cell? wr _ u3)).trans u3, (hb.cell (World.block_lt_of_cell? wr _ u4)).trans u4, (hb.cell (World.block_lt_of_cell? wr _ u5)).trans u5, (hb.cell (World.block_lt_of_cell? wr _ u6)).trans u6⟩, ⟨(hb.cell (World.block_lt_of_cell? wr _ v0)).trans v0, (hb.cell (World.block_lt_of_cell? wr _ v1)).trans v1, (hb.cell (World.block_lt_of_cell? wr _ v2)).trans v2, (hb.cell (World.block_lt_of_cell? wr _ v3)).trans v3, (hb.cell (World.block_lt_of_cell? wr _ v4)).trans v4, (hb.cell (World.block_lt_of_cell? wr _ v5)).trans v5, (hb.cell (World.block_lt_of_cell? wr _ v6)).trans v6⟩⟩)
            obtain ⟨j1, hj1⟩ : ∃ j1, j + 1 = j1 := ⟨_, rfl⟩
            have hw2 : IntKind.i64.wrap ((j : Int) + 1) = (j1 : Int) := by simp [IntKind.wrap, IntKind.bits, IntKind.signed]; omega
            have hbl : (j : Int) < (ml : Int) := by omega
            have hb0 : ¬ (j : Int) < 0 := by omega
            clear hT hT' hu hmem hBj hbW IH HI HJ HR HS HK
            go_wp2_with fail
            go_region_held3 (fun w' => (w'.cell? ⟨W.heap.size, 6, none⟩ = some (.slice (some ⟨g, 0, none⟩) ml cap) ∧ w'.cell? ⟨W1.heap.size, 6, none⟩ = some (.slice (some ⟨q, 0, none⟩) ml bap)) ∧ (w'.cell? ⟨g, j * 7, none⟩ = some (.int .i64 kind1) ∧ w'.cell? ⟨g, j * 7 + 1, none⟩ = some (.int .i64 code1) ∧ w'.cell? ⟨g, j * 7 + 2, none⟩ = some (.bool neg1) ∧ w'.cell? ⟨g, j * 7 + 3, none⟩ = some (.slice A31 n31 c31) ∧ w'.cell? ⟨g, j * 7 + 4, none⟩ = some (.int .i64 lo1) ∧ w'.cell? ⟨g, j * 7 + 5, none⟩ = some (.int .i64 hi1) ∧ w'.cell? ⟨g, j * 7 + 6, none⟩ = some (.slice A21 n21 c21)) ∧ (w'.cell? ⟨q, j * 7, none⟩ = some (.int .i64 kind2) ∧ w'.cell? ⟨q, j * 7 + 1, none⟩ = some (.int .i64 code2) ∧ w'.cell? ⟨q, j * 7 + 2, none⟩ = some (.bool neg2) ∧ w'.cell? ⟨q, j * 7 + 3, none⟩ = some (.slice A32 n32 c32) ∧ w'.cell? ⟨q, j * 7 + 4, none⟩ = some (.int .i64 lo2) ∧ w'.cell? ⟨q, j * 7 + 5, none⟩ = some (.int .i64 hi2) ∧ w'.cell? ⟨q, j * 7 + 6, none⟩ = some (.slice A22 n22 c22)))
              (first | (with_reducible exact S2) | go_keep)
              (first | (go_at_call 9; refine (CS.out _ (below_drew' _ _)).mono ?_; rintro e w2 ⟨rfl, hbs⟩; have hb2 : Below wr.heap.size wr w2 := (below_drew' _ _).trans hbs; have S2 := KP.out _ hb2; clear hbs))
            all_goals
              clear S2
              have HX := Lib.hid (HBj.out.trans (hb2.mono HBj.out.size))
              clear hb2
              go_wp2_with fail
              refine ⟨⟨j1, rfl, by omega, HX.out⟩, ?_⟩
              simp [RowKit.intOf]
              omega
          · obtain rfl : j = ml := by omega
            clear hBj hbW
            go_wp2_with fail
            go_ret
            exact ⟨rfl, HBW.out⟩
theorem rx_same {W : World} {P P' : Nat → Prop} {t : Tr} {vs us : Array Value} (h : TrV W P t vs) (h' : TrV W P' t us) : Calls Tryd.prog 9 #[.agg vs, .agg us] W fun e w' => e = .returned (.bool true) ∧ Below W.heap.size W w' := rx_same_n _ t P P' vs us W (Nat.le_refl _) h h'
end Go.Proofs.YtmfcofiihopbfaaDoor

namespace Go.Proofs.YtmfcofiihopbfaaDoor
open Go.Lib

theorem num_one {s : ByteArray} {i : Nat} {c d : UInt8} {l : List UInt8} (h : s.data.toList.drop i = c :: d :: l) (hc : 48 ≤ c.toNat ∧ c.toNat ≤ 57) (hd : ¬ (48 ≤ d.toNat ∧ d.toNat ≤ 57)) : numR s i 0 = (c.toNat - 48, i + 1) := by
  obtain ⟨h1, h2, h3⟩ := get_of_drop h
  obtain ⟨k1, k2, _⟩ := get_of_drop h3
  rw [numR_step s i 0 (by unfold rxDg; rw [h2]; exact decide_eq_true ⟨h1, hc⟩), h2, numR_stop _ _ _ (by unfold rxDg; rw [k2]; exact decide_eq_false (fun h => hd h.2)), show min (0 * 10 + (c.toNat - 48)) 31 = c.toNat - 48 by omega]
theorem num_two {s : ByteArray} {i : Nat} {c d e : UInt8} {l : List UInt8} (h : s.data.toList.drop i = c :: d :: e :: l) (hc : 48 ≤ c.toNat ∧ c.toNat ≤ 57) (hd : 48 ≤ d.toNat ∧ d.toNat ≤ 57) (he : ¬ (48 ≤ e.toNat ∧ e.toNat ≤ 57)) :
    numR s i 0 = (min ((c.toNat - 48) * 10 + (d.toNat - 48)) 31, i + 1 + 1) := by
  obtain ⟨h1, h2, h3⟩ := get_of_drop h
  obtain ⟨k1, k2, k3⟩ := get_of_drop h3
  obtain ⟨j1, j2, _⟩ := get_of_drop k3
  rw [numR_step s i 0 (by unfold rxDg; rw [h2]; exact decide_eq_true ⟨h1, hc⟩), h2, numR_step s (i + 1) _ (by unfold rxDg; rw [k2]; exact decide_eq_true ⟨k1, hd⟩), k2, numR_stop _ _ _ (by unfold rxDg; rw [j2]; exact decide_eq_false (fun h => he h.2)), show min (0 * 10 + (c.toNat - 48)) 31 = c.toNat - 48 by omega]
/-- The digits of a number below a hundred. -/
def digL (n : Nat) : List UInt8 := if n < 10 then [UInt8.ofNat (48 + n)] else [UInt8.ofNat (48 + n / 10), UInt8.ofNat (48 + n % 10)]
theorem ofNat_toNat {n : Nat} (h : n < 256) : (UInt8.ofNat n).toNat = n := by
  simp
  omega
theorem num_dig {s : ByteArray} {i n : Nat} {d : UInt8} {l : List UInt8} (hn : n ≤ 99) (h : s.data.toList.drop i = digL n ++ d :: l) (hd : ¬ (48 ≤ d.toNat ∧ d.toNat ≤ 57)) :
    numR s i 0 = (min n 31, i + (digL n).length) ∧ s.data.toList.drop (i + (digL n).length) = d :: l := by
  refine ⟨?_, by rw [← List.drop_drop, h, List.drop_left]⟩
  by_cases h10 : n < 10
  · rw [digL, if_pos h10] at h ⊢
    have e := ofNat_toNat (show 48 + n < 256 by omega)
    rw [num_one h (by rw [e]; omega) hd, e, show 48 + n - 48 = min n 31 by omega]
    rfl
  · rw [digL, if_neg h10] at h ⊢
    have e := ofNat_toNat (show 48 + n / 10 < 256 by omega)
    have e' := ofNat_toNat (show 48 + n % 10 < 256 by omega)
    rw [num_two h (by rw [e]; omega) (by rw [e']; omega) hd, e, e', show (48 + n / 10 - 48) * 10 + (48 + n % 10 - 48) = n by omega]
    rfl
theorem digL_len (n : Nat) : 1 ≤ (digL n).length ∧ (digL n).length ≤ 2 := by
  unfold digL
  split <;> simp
theorem bnd_two {s : ByteArray} {lo hi : Nat} (h1 : lo ≤ 99) (h2 : hi ≤ 99) (h : s.data.toList = 97 :: 123 :: (digL lo ++ 44 :: (digL hi ++ [125]))) : bndF s 1 = some (((min lo 31 : Nat) : Int), ((min hi 31 : Nat) : Int), s.size) := by
  have d0 : s.data.toList.drop 0 = 97 :: 123 :: (digL lo ++ 44 :: (digL hi ++ [125])) := h
  obtain ⟨_, _, d1⟩ := get_of_drop d0
  obtain ⟨b1, b2, d2⟩ := get_of_drop d1
  have l1 := digL_len lo
  have l2 := digL_len hi
  obtain ⟨n1, d3⟩ := num_dig h1 d2 (by decide)
  obtain ⟨c1, c2, d4⟩ := get_of_drop d3
  obtain ⟨n2, d5⟩ := num_dig h2 d4 (by decide)
  obtain ⟨e1, e2, d6⟩ := get_of_drop d5
  have hz : s.size = 1 + 1 + (digL lo).length + 1 + (digL hi).length + 1 := by
    rw [Lib.size_eq, h]
    simp
    omega
  have s1 : st1 s 1 123 = true := decide_eq_true ⟨b1, by rw [b2]; rfl⟩
  have s2 : st1 s (1 + 1 + (digL lo).length) 44 = true := decide_eq_true ⟨c1, by rw [c2]; rfl⟩
  have s3 : st1 s (1 + 1 + (digL lo).length + 1 + (digL hi).length) 125 = true := decide_eq_true ⟨e1, by rw [e2]; rfl⟩
  unfold bndF
  simp only [n1]
  rw [if_pos s1, if_neg (by omega), if_pos s2]
  simp only [n2]
  rw [if_pos s3, if_neg (by omega), hz]
theorem bnd_open {s : ByteArray} {lo : Nat} (h1 : lo ≤ 99) (h : s.data.toList = 97 :: 123 :: (digL lo ++ [44, 125])) : bndF s 1 = some (((min lo 31 : Nat) : Int), -1, s.size) := by
  have d0 : s.data.toList.drop 0 = 97 :: 123 :: (digL lo ++ [44, 125]) := h
  obtain ⟨_, _, d1⟩ := get_of_drop d0
  obtain ⟨b1, b2, d2⟩ := get_of_drop d1
  have l1 := digL_len lo
  obtain ⟨n1, d3⟩ := num_dig h1 d2 (by decide)
  obtain ⟨c1, c2, d4⟩ := get_of_drop d3
  obtain ⟨e1, e2, d6⟩ := get_of_drop d4
  have hz : s.size = 1 + 1 + (digL lo).length + 1 + 1 := by
    rw [Lib.size_eq, h]
    simp
    omega
  have n2 : numR s (1 + 1 + (digL lo).length + 1) 0 = (0, 1 + 1 + (digL lo).length + 1) := numR_stop _ _ _ (by unfold rxDg; rw [e2]; exact decide_eq_false (fun h => by simp at h))
  have s1 : st1 s 1 123 = true := decide_eq_true ⟨b1, by rw [b2]; rfl⟩
  have s2 : st1 s (1 + 1 + (digL lo).length) 44 = true := decide_eq_true ⟨c1, by rw [c2]; rfl⟩
  have s3 : st1 s (1 + 1 + (digL lo).length + 1) 125 = true := decide_eq_true ⟨e1, by rw [e2]; rfl⟩
  unfold bndF
  simp only [n1]
  rw [if_pos s1, if_neg (by omega), if_pos s2]
  simp only [n2]
  rw [if_pos s3, if_pos trivial, hz]
theorem rep_wt {a c : Int} (h0 : 0 ≤ a) (h1 : a ≤ 31) (h2 : c ≤ 31) (h3 : -1 ≤ c) : (trR a c (trC 97)).wt = if c < 0 then a + 2 else c + 1 := by
  have e : (trC 97).wt = 1 := by
    unfold trC
    rw [Tr.wt, Tr.wts]
    decide
  unfold trR
  rw [Tr.wt, if_neg (by decide), if_pos rfl, Tr.wts, e, Tr.wts, show min ((0 : Int) + 1) 1048576 = 1 from rfl, Int.one_mul]
  split <;> omega
theorem rep_parse {s : ByteArray} {l : List UInt8} {a c : Int} (h : s.data.toList = 97 :: 123 :: l) (hb : bndF s 1 = some (a, c, s.size)) (hz : s.size ≤ 1024) (h0 : 0 ≤ a) (h1 : a ≤ 31) (h2 : c ≤ 31) (h3 : -1 ≤ c) :
    rxParse s false = if 30 < a ∨ 30 < c then (trZ, 1, 91) else if repsF a c = true then (trR a c (trC 97), 0, 0) else (trZ, 1, 90) := by
  have d0 : s.data.toList.drop 0 = 97 :: 123 :: l := h
  obtain ⟨b1, b2, d1⟩ := get_of_drop d0
  obtain ⟨c1, c2, d2⟩ := get_of_drop d1
  have hbi := bnd_in hb
  have st : ∀ d, d ≠ 97 → st1 s 0 d = false := fun d hd => by
    unfold st1
    rw [b2, decide_eq_false_iff_not]
    intro h
    exact hd h.2.symm
  have su : ∀ d, d ≠ 123 → st1 s 1 d = false := fun d hd => by
    unfold st1
    rw [c2, decide_eq_false_iff_not]
    intro h
    exact hd h.2.symm
  have e0 : ¬ rowE s 0 := by
    unfold rowE
    rw [st 124 (by omega), st 41 (by omega)]
    simp
    omega
  have e1 : ¬ rowE s 1 := by
    unfold rowE
    rw [su 124 (by omega), su 41 (by omega)]
    simp
    omega
  have n0 : ∀ grp, nodeF grp s false 0 = .ok (trC 97) 1 := fun grp => by
    unfold nodeF
    rw [show ((0 : Nat) : Int) = ((0 : Nat) : Int) from rfl, nx_asc s 0 false b1 (by rw [b2]; decide), b2]
    rfl
  obtain ⟨f, hf⟩ : ∃ f, s.size + 1 = f + 1 + 1 + 1 := ⟨s.size - 2, by omega⟩
  have r1 : repF s 1 = some (if 30 < a ∨ 30 < c then .bad 1 91 else if repsF a c = true then .ok (a, c) s.size else .bad 1 90) := by
    unfold repF ivlF
    rw [su 42 (by omega), su 43 (by omega), su 63 (by omega), hb]
    rfl
  have hR : rowF (grpF s false 40) s false (s.size + 1) 0 [] = if 30 < a ∨ 30 < c then .bad 1 91 else if repsF a c = true then .ok (trR a c (trC 97)) s.size else .bad 1 90 := by
    rw [hf, row_node e0 (.inl rfl) (n0 _), List.nil_append]
    by_cases p : 30 < a ∨ 30 < c
    · rw [if_pos p] at r1 ⊢
      exact row_repbad (ks := []) e1 r1
    · rw [if_neg p] at r1 ⊢
      by_cases q : repsF a c = true
      · rw [if_pos q] at r1 ⊢
        have := row_rep (grp := grpF s false 40) (b := false) (f := f + 1) (ks := []) (t := trC 97) e1 r1
        rw [List.nil_append] at this
        rw [this, row_end (.inl rfl)]
        rfl
      · rw [if_neg q] at r1 ⊢
        exact row_repbad (ks := []) e1 r1
  have hC : chD s false 40 0 = if 30 < a ∨ 30 < c then .bad 1 91 else if repsF a c = true then .ok (trR a c (trC 97)) s.size else .bad 1 90 := by
    unfold chD
    rw [chF, hR]
    by_cases p : 30 < a ∨ 30 < c
    · rw [if_pos p]
    · rw [if_neg p]
      by_cases q : repsF a c = true
      · rw [if_pos q]
        dsimp only
        rw [st1_end]
        rfl
      · rw [if_neg q]
  unfold rxParse
  rw [if_neg (by omega), hC]
  by_cases p : 30 < a ∨ 30 < c
  · rw [if_pos p, if_pos p]
  · rw [if_neg p, if_neg p]
    by_cases q : repsF a c = true
    · rw [if_pos q, if_pos q]
      dsimp only
      rw [if_pos rfl, rep_wt h0 h1 h2 h3, if_neg (by split <;> omega)]
    · rw [if_neg q, if_neg q]
/-- The document's example. -/
theorem ex_one : rxParse ⟨#[97, 124, 91, 98, 45, 100, 93, 123, 50, 44, 125]⟩ false = (trN 6 [trC 97, trR 2 (-1) (trS false [(98, 100)])], 0, 0) := by kernel_rfl
theorem ex_two : rxParse ⟨#[97, 40, 98]⟩ false = (trZ, 1, 90) := by kernel_rfl
/-- The document's examples of right and wrong patterns, as the law lays them. -/
abbrev exC : Array Value := #[.string ⟨#[]⟩, .int .i64 0, .int .i64 0, .string ⟨#[42, 97]⟩, .int .i64 0, .int .i64 0, .string ⟨#[97, 123]⟩, .int .i64 0, .int .i64 0, .string ⟨#[97, 123, 49, 44, 50]⟩, .int .i64 0, .int .i64 0, .string ⟨#[40, 41]⟩, .int .i64 0, .int .i64 0, .string ⟨#[97, 124, 124, 98]⟩, .int .i64 0, .int .i64 0, .string ⟨#[91, 93, 97, 93]⟩, .int .i64 0, .int .i64 0, .string ⟨#[91, 94, 93, 93]⟩, .int .i64 0, .int .i64 0, .string ⟨#[91, 97, 45, 93]⟩, .int .i64 0, .int .i64 0, .string ⟨#[97, 41]⟩, .int .i64 1, .int .i64 90, .string ⟨#[97, 98, 91, 99]⟩, .int .i64 2, .int .i64 90, .string ⟨#[91, 98, 45, 97, 93]⟩, .int .i64 0, .int .i64 90, .string ⟨#[91, 91, 58, 110, 111, 112, 101, 58, 93, 93]⟩, .int .i64 0, .int .i64 90, .string ⟨#[97, 92]⟩, .int .i64 1, .int .i64 90, .string ⟨#[97, 92, 113]⟩, .int .i64 1, .int .i64 90, .string ⟨#[97, 123, 51, 44, 50, 125]⟩, .int .i64 1, .int .i64 90, .string ⟨#[97, 123, 51, 49, 125]⟩, .int .i64 1, .int .i64 91, .string ⟨#[40, 97, 123, 51, 48, 125, 41, 123, 51, 48, 125]⟩, .int .i64 0, .int .i64 91]
theorem ex_at : ∀ k : Nat, k < 18 → ∃ (s : ByteArray) (a : Nat) (e : Int), exC[k * 3]? = some (.string s) ∧ exC[k * 3 + 1]? = some (.int .i64 a) ∧ exC[k * 3 + 2]? = some (.int .i64 e) ∧ s.size ≤ 1024 ∧ (rxParse s false).2 = (a, e) ∧ (e = 0 ∨ (e ≠ 0 ∧ (rxParse s false).1 = trZ))
  | 0, _ => ⟨_, 0, 0, rfl, rfl, rfl, by decide, by kernel_rfl, .inl rfl⟩
  | 1, _ => ⟨_, 0, 0, rfl, rfl, rfl, by decide, by kernel_rfl, .inl rfl⟩
  | 2, _ => ⟨_, 0, 0, rfl, rfl, rfl, by decide, by kernel_rfl, .inl rfl⟩
  | 3, _ => ⟨_, 0, 0, rfl, rfl, rfl, by decide, by kernel_rfl, .inl rfl⟩
  | 4, _ => ⟨_, 0, 0, rfl, rfl, rfl, by decide, by kernel_rfl, .inl rfl⟩
  | 5, _ => ⟨_, 0, 0, rfl, rfl, rfl, by decide, by kernel_rfl, .inl rfl⟩
  | 6, _ => ⟨_, 0, 0, rfl, rfl, rfl, by decide, by kernel_rfl, .inl rfl⟩
  | 7, _ => ⟨_, 0, 0, rfl, rfl, rfl, by decide, by kernel_rfl, .inl rfl⟩
  | 8, _ => ⟨_, 0, 0, rfl, rfl, rfl, by decide, by kernel_rfl, .inl rfl⟩
  | 9, _ => ⟨_, 1, 90, rfl, rfl, rfl, by decide, by kernel_rfl, .inr ⟨by decide, by kernel_rfl⟩⟩
  | 10, _ => ⟨_, 2, 90, rfl, rfl, rfl, by decide, by kernel_rfl, .inr ⟨by decide, by kernel_rfl⟩⟩
  | 11, _ => ⟨_, 0, 90, rfl, rfl, rfl, by decide, by kernel_rfl, .inr ⟨by decide, by kernel_rfl⟩⟩
  | 12, _ => ⟨_, 0, 90, rfl, rfl, rfl, by decide, by kernel_rfl, .inr ⟨by decide, by kernel_rfl⟩⟩
  | 13, _ => ⟨_, 1, 90, rfl, rfl, rfl, by decide, by kernel_rfl, .inr ⟨by decide, by kernel_rfl⟩⟩
  | 14, _ => ⟨_, 1, 90, rfl, rfl, rfl, by decide, by kernel_rfl, .inr ⟨by decide, by kernel_rfl⟩⟩
  | 15, _ => ⟨_, 1, 90, rfl, rfl, rfl, by decide, by kernel_rfl, .inr ⟨by decide, by kernel_rfl⟩⟩
  | 16, _ => ⟨_, 1, 91, rfl, rfl, rfl, by decide, by kernel_rfl, .inr ⟨by decide, by kernel_rfl⟩⟩
  | 17, _ => ⟨_, 0, 91, rfl, rfl, rfl, by decide, by kernel_rfl, .inr ⟨by decide, by kernel_rfl⟩⟩
  | k + 18, h => absurd h (by omega)
end Go.Proofs.YtmfcofiihopbfaaDoor

namespace Go.Proofs.YtmfcofiihopbfaaDoor
open Go.RowKit Go.Lib

theorem in_row {X : World} {P : Nat → Prop} {g o : Nat} {t : Tr} {vs cs : Array Value} {T : TypeId} (hb : Blk X g cs T) (ht : TrV X P t vs) (hcs : ∀ i, i < 7 → cs[o + i]? = vs[i]?) : t.In X P (fun i => X.cell? ⟨g, o + i, none⟩) :=
  ht.2.congr fun i hi => (hb.cell (o + i)).trans (hcs i hi)
theorem ins_one {X : World} {P : Nat → Prop} {g : Nat} {t : Tr} {vs cs : Array Value} {T : TypeId} (hb : Blk X g cs T) (hp : P g) (ht : TrV X P t vs) (hcs : ∀ i, i < 7 → cs[0 + i]? = vs[i]?) : Tr.Ins X P [t] (some ⟨g, 0, none⟩) 0 := by
  rw [Tr.Ins, Tr.Ins]
  exact ⟨⟨g, rfl, hp, in_row hb ht hcs⟩, trivial⟩
theorem ins_two {X : World} {P : Nat → Prop} {g : Nat} {t u : Tr} {vs us cs : Array Value} {T : TypeId} (hb : Blk X g cs T) (hp : P g) (ht : TrV X P t vs) (hu : TrV X P u us) (hcs : ∀ i, i < 7 → cs[0 + i]? = vs[i]?) (hds : ∀ i, i < 7 → cs[0 + 7 + i]? = us[i]?) : Tr.Ins X P [t, u] (some ⟨g, 0, none⟩) 0 := by
  rw [Tr.Ins, Tr.Ins, Tr.Ins]
  exact ⟨⟨g, rfl, hp, in_row hb ht hcs⟩, ⟨g, rfl, hp, in_row hb hu hds⟩, trivial⟩
theorem rg_one {X : World} {P : Nat → Prop} {g : Nat} {x y : Int} {T : TypeId} (hb : Blk X g #[.int .i64 x, .int .i64 y] T) (hp : P g) : RgIn X P [(x, y)] (.slice (some ⟨g, 0, none⟩) 1 1) :=
  ⟨_, _, rfl, by simp, fun j r hj => by
    cases j with
    | zero =>
      obtain rfl : (x, y) = r := by simpa using hj
      exact ⟨g, rfl, hp, hb.cell 0, hb.cell 1⟩
    | succ j => simp at hj⟩
theorem seven_cases {p : Nat → Prop} (h0 : p 0) (h1 : p 1) (h2 : p 2) (h3 : p 3) (h4 : p 4) (h5 : p 5) (h6 : p 6) : ∀ i, i < 7 → p i := fun i hi => by
  have : i = 0 ∨ i = 1 ∨ i = 2 ∨ i = 3 ∨ i = 4 ∨ i = 5 ∨ i = 6 := by omega
  rcases this with rfl | rfl | rfl | rfl | rfl | rfl | rfl <;> assumption
/-- The example's tree, as the law lays it. -/
abbrev exW (w : World) : World := ((w.alloc (.cells #[.int .i64 98, .int .i64 100] 42)).alloc (.cells #[.int .i64 4, .int .i64 0, .bool false, .slice (some ⟨w.heap.size, 0, none⟩) 1 1, .int .i64 0, .int .i64 0, .slice none 0 0] 30)).alloc
  (.cells #[.int .i64 2, .int .i64 97, .bool false, .slice none 0 0, .int .i64 0, .int .i64 0, .slice none 0 0, .int .i64 7, .int .i64 0, .bool false, .slice none 0 0, .int .i64 2, .int .i64 (-1), .slice (some ⟨w.heap.size + 1, 0, none⟩) 1 1] 30)
theorem exTree (w : World) : TrV (exW w) (fun _ => True) (trN 6 [trC 97, trR 2 (-1) (trS false [(98, 100)])]) #[.int .i64 6, .int .i64 0, .bool false, .slice none 0 0, .int .i64 0, .int .i64 0, .slice (some ⟨w.heap.size + 2, 0, none⟩) 2 2] := by
  have b0 : Blk (exW w) w.heap.size #[.int .i64 98, .int .i64 100] 42 := ((Blk.new w _ _).alloc _).alloc _
  have b1 : Blk (exW w) (w.heap.size + 1) #[.int .i64 4, .int .i64 0, .bool false, .slice (some ⟨w.heap.size, 0, none⟩) 1 1, .int .i64 0, .int .i64 0, .slice none 0 0] 30 := by
    have := (Blk.new (w.alloc (.cells #[.int .i64 98, .int .i64 100] 42)) #[.int .i64 4, .int .i64 0, .bool false, .slice (some ⟨w.heap.size, 0, none⟩) 1 1, .int .i64 0, .int .i64 0, .slice none 0 0] 30).alloc (.cells #[.int .i64 2, .int .i64 97, .bool false, .slice none 0 0, .int .i64 0, .int .i64 0, .slice none 0 0, .int .i64 7, .int .i64 0, .bool false, .slice none 0 0, .int .i64 2, .int .i64 (-1), .slice (some ⟨w.heap.size + 1, 0, none⟩) 1 1] 30)
    rw [World.size_alloc] at this
    exact this
  have b2 : Blk (exW w) (w.heap.size + 2) #[.int .i64 2, .int .i64 97, .bool false, .slice none 0 0, .int .i64 0, .int .i64 0, .slice none 0 0, .int .i64 7, .int .i64 0, .bool false, .slice none 0 0, .int .i64 2, .int .i64 (-1), .slice (some ⟨w.heap.size + 1, 0, none⟩) 1 1] 30 := by
    have := Blk.new ((w.alloc (.cells #[.int .i64 98, .int .i64 100] 42)).alloc (.cells #[.int .i64 4, .int .i64 0, .bool false, .slice (some ⟨w.heap.size, 0, none⟩) 1 1, .int .i64 0, .int .i64 0, .slice none 0 0] 30)) #[.int .i64 2, .int .i64 97, .bool false, .slice none 0 0, .int .i64 0, .int .i64 0, .slice none 0 0, .int .i64 7, .int .i64 0, .bool false, .slice none 0 0, .int .i64 2, .int .i64 (-1), .slice (some ⟨w.heap.size + 1, 0, none⟩) 1 1] 30
    rw [World.size_alloc, World.size_alloc] at this
    exact this
  have t0 : TrV (exW w) (fun _ => True) (trS false [(98, 100)]) #[.int .i64 4, .int .i64 0, .bool false, .slice (some ⟨w.heap.size, 0, none⟩) 1 1, .int .i64 0, .int .i64 0, .slice none 0 0] :=
    TrV.mk (kids := []) (by simp) (rg_one b0 trivial) (Tr.Ins.nil _ _ none 0)
  have t1 : TrV (exW w) (fun _ => True) (trR 2 (-1) (trS false [(98, 100)])) #[.int .i64 7, .int .i64 0, .bool false, .slice none 0 0, .int .i64 2, .int .i64 (-1), .slice (some ⟨w.heap.size + 1, 0, none⟩) 1 1] :=
    TrV.mk (kids := [trS false [(98, 100)]]) (by simp) (RgIn.nil _ _ none 0) (ins_one b1 trivial t0 (seven_cases rfl rfl rfl rfl rfl rfl rfl))
  have t2 : TrV (exW w) (fun _ => True) (trC 97) #[.int .i64 2, .int .i64 97, .bool false, .slice none 0 0, .int .i64 0, .int .i64 0, .slice none 0 0] := TrV.leaf _ _ 2 97 false 0 0
  exact TrV.mk (kids := [trC 97, trR 2 (-1) (trS false [(98, 100)])]) (by simp) (RgIn.nil _ _ none 0) (ins_two b2 trivial t2 t1 (seven_cases rfl rfl rfl rfl rfl rfl rfl) (seven_cases rfl rfl rfl rfl rfl rfl rfl))
set_option maxRecDepth 100000 in
set_option maxHeartbeats 1500000 in
theorem rxFixed_any {W : World} (hE : REnv W) : Calls Tryd.prog 7 #[] W fun e w' => e = .returned (.bool true) ∧ Below W.heap.size W w' := by
  have C1 := rx_parse (s := ⟨#[97, 124, 91, 98, 45, 100, 93, 123, 50, 44, 125]⟩) (by decide) false hE
  rw [ex_one] at C1
  have C1 := Lib.hid C1
  have C2 := Lib.hid (fun (w : World) (hb : Below W.heap.size W w) => show Calls Tryd.prog 8 #[.string ⟨#[97, 40, 98]⟩, .bool false] w (PrsOut w (trZ, 1, 90)) from ex_two ▸ rx_parse (s := ⟨#[97, 40, 98]⟩) (by decide) false (hE.kept hb))
  clear hE
  go_enter Tryd.func7, Tryd.ntmps7
  go_wp2_with fail
  refine C1.out.mono ?_
  rintro e w1 ⟨vs, rfl, ht, hb1⟩
  obtain ⟨sv, A, cap, rfl, _, hR, _⟩ := (show TrV w1 _ (.mk 6 0 false [] 0 0 [trC 97, trR 2 (-1) (trS false [(98, 100)])]) vs from ht).open
  obtain ⟨A3, c3, rfl⟩ := rx_store_set hR
  simp only [List.length_cons, List.length_nil, Nat.zero_add, Nat.reduceAdd] at ht
  have hs1 := hb1.size
  have F1 := Blk.new w1 #[.int .i64 6, .int .i64 0, .bool false, .slice A3 0 c3, .int .i64 0, .int .i64 0, .slice A 2 cap] 30
  have hb2 := hb1.alloc hs1 (.cells #[.int .i64 6, .int .i64 0, .bool false, .slice A3 0 c3, .int .i64 0, .int .i64 0, .slice A 2 cap] 30)
  have hbx := (Below.refl w1.heap.size w1).alloc (Nat.le_refl _) (.cells #[.int .i64 6, .int .i64 0, .bool false, .slice A3 0 c3, .int .i64 0, .int .i64 0, .slice A 2 cap] 30)
  have HT := Lib.hid ht
  have HF := Lib.hid F1
  have HB := Lib.hid hb2
  have HBX := Lib.hid hbx
  simp only [List.length_cons, List.length_nil, Nat.zero_add, Nat.reduceAdd]
  clear ht hR F1 hb2 hbx C1 hb1
  go_wp2_with fail
  refine (C2.out _ HB.out).mono ?_
  rintro e w2 ⟨us, rfl, hz, hb2⟩
  obtain ⟨sv2, A2, cap2, rfl, _, hR2, _⟩ := (show TrV w2 _ (.mk 0 0 false [] 0 0 []) us from hz).open
  obtain ⟨A4, c4, rfl⟩ := rx_store_set hR2
  simp only [List.length_nil]
  have hsz := HB.out.size
  have hb3 := (HBX.out.trans (hb2.mono HBX.out.size)).alloc (HBX.out.trans (hb2.mono HBX.out.size)).size (.cells #[.int .i64 0, .int .i64 0, .bool false, .slice A4 0 c4, .int .i64 0, .int .i64 0, .slice A2 0 cap2] 30)
  have hb4 := (HB.out.trans (hb2.mono hsz)).alloc (HB.out.trans (hb2.mono hsz)).size (.cells #[.int .i64 0, .int .i64 0, .bool false, .slice A4 0 c4, .int .i64 0, .int .i64 0, .slice A2 0 cap2] 30)
  have F2 := (HF.out.below hb2 HF.out.lt).alloc (.cells #[.int .i64 0, .int .i64 0, .bool false, .slice A4 0 c4, .int .i64 0, .int .i64 0, .slice A2 0 cap2] 30)
  obtain ⟨V, hV⟩ : ∃ V, w2.alloc (.cells #[.int .i64 0, .int .i64 0, .bool false, .slice A4 0 c4, .int .i64 0, .int .i64 0, .slice A2 0 cap2] 30) = V := ⟨_, rfl⟩
  rw [hV] at hb3 hb4 F2
  have HB3 := Lib.hid hb3
  have HB4 := Lib.hid hb4
  obtain ⟨⟨x0, x1, x2, x3, x4, x5, x6⟩, _⟩ := F2.seven
  clear hz hR2 hb2 F2 hb3 hb4 C2
  go_wp2_with fail
  clear hV x0 x1 x2 x3 x4 x5 x6
  have hbx := (((Below.refl V.heap.size V).alloc (Nat.le_refl _) (.cells #[.int .i64 98, .int .i64 100] 42)).alloc (by simp) (.cells #[.int .i64 4, .int .i64 0, .bool false, .slice (some ⟨V.heap.size, 0, none⟩) 1 1, .int .i64 0, .int .i64 0, .slice none 0 0] 30)).alloc (by simp; omega) (.cells #[.int .i64 2, .int .i64 97, .bool false, .slice none 0 0, .int .i64 0, .int .i64 0, .slice none 0 0, .int .i64 7, .int .i64 0, .bool false, .slice none 0 0, .int .i64 2, .int .i64 (-1), .slice (some ⟨V.heap.size + 1, 0, none⟩) 1 1] 30)
  have hbf : Below w1.heap.size w1 (exW V) := HB3.out.trans (hbx.mono HB3.out.size)
  have hbg : Below W.heap.size W (exW V) := HB4.out.trans (hbx.mono HB4.out.size)
  have CS := rx_same (HT.out.kept (w' := exW V) (P' := fun _ => True) (fun g hg _ => ⟨trivial, hbf.block g hg⟩)) (exTree V)
  refine CS.mono ?_
  rintro e w4 ⟨rfl, hq⟩
  have HBf := Lib.hid (hbg.trans (hq.mono hbg.size))
  clear CS hq hbx hbf hbg
  go_wp2_with fail
  go_ret
  exact ⟨rfl, HBf.out⟩
end Go.Proofs.YtmfcofiihopbfaaDoor

namespace Go.Proofs.YtmfcofiihopbfaaDoor
open Go.RowKit Go.Lib

set_option maxRecDepth 100000 in
set_option maxHeartbeats 1500000 in
/-- The law RxNames. -/
theorem rxNames_any {W : World} (hE : REnv W) : Calls Tryd.prog 3 #[] W fun e w' => e = .returned (.bool true) ∧ Below W.heap.size W w' := by
  have CF := Lib.hid (rxFixed_any hE)
  have CP := Lib.hid (fun (s : ByteArray) (hs : s.size ≤ 1024) w (hb : Below W.heap.size W w) => show Calls Tryd.prog 8 #[.string s, .bool false] w (PrsOut w (rxParse s false)) from rx_parse hs false (hE.kept hb))
  clear hE
  go_enter Tryd.func3, Tryd.ntmps3
  go_wp2_with fail
  refine CF.out.mono ?_
  rintro e w1 ⟨rfl, hb1⟩
  have HB1 := Lib.hid hb1
  have FT := Blk.new w1 exC 24
  clear hb1 CF
  obtain ⟨V, hV⟩ : ∃ V, w1.alloc (.cells exC 24) = V := ⟨_, rfl⟩
  rw [hV] at FT
  have HF := Lib.hid FT
  have HV := Lib.hid (show Below W.heap.size W V from hV ▸ HB1.out.alloc HB1.out.size _)
  clear FT
  go_wp2_with fail
  clear hV
  go_loopw [36] (fun iv wr => ∃ k : Nat, iv = .int .i64 (k : Int) ∧ k ≤ 18 ∧ Below V.heap.size V wr) (fun iv _ => 18 - (RowKit.intOf iv).toNat)
  case atStart => exact ⟨0, rfl, Nat.zero_le _, Below.refl _ _⟩
  case round =>
    obtain ⟨k, rfl, hk, hB⟩ := hrel
    have HB := Lib.hid hB
    by_cases hlt : k < 18
    · obtain ⟨s, a, e, h0, h1, h2, hz, hr, hc⟩ := ex_at k hlt
      have FT := HF.out.below hB HF.out.lt
      have q0 := (FT.cell _).trans h0
      have q1 := (FT.cell _).trans h1
      have q2 := (FT.cell _).trans h2
      obtain ⟨t, ht⟩ : ∃ t, rxParse s false = (t, a, e) := ⟨(rxParse s false).1, by rw [← hr]⟩
      have CPs := Lib.hid (fun w hb => show Calls Tryd.prog 8 #[.string s, .bool false] w (PrsOut w (t, a, e)) from ht ▸ CP.out s hz w hb)
      rw [ht] at hc
      have FU := Blk.new wr #[.string s, .int .i64 (a : Int), .int .i64 e] 24
      have hbU := (HV.out.trans (hB.mono HV.out.size)).alloc (HV.out.trans (hB.mono HV.out.size)).size (.cells #[.string s, .int .i64 (a : Int), .int .i64 e] 24)
      have hbV := hB.alloc hB.size (.cells #[.string s, .int .i64 (a : Int), .int .i64 e] 24)
      obtain ⟨U, hU⟩ : ∃ U, wr.alloc (.cells #[.string s, .int .i64 (a : Int), .int .i64 e] 24) = U := ⟨_, rfl⟩
      rw [hU] at FU hbU hbV
      have HFU := Lib.hid FU
      have HU := Lib.hid hbU
      have HUV := Lib.hid hbV
      have u0 := FU.cell 0
      have u1 := FU.cell 1
      have u2 := FU.cell 2
      simp at u0 u1 u2
      have hbl : (k : Int) < 18 := by omega
      have hb0 : ¬ (k : Int) < 0 := by omega
      obtain ⟨k1, hk1⟩ : ∃ k1, k + 1 = k1 := ⟨_, rfl⟩
      have hw2 : IntKind.i64.wrap ((k : Int) + 1) = (k1 : Int) := by simp [IntKind.wrap, IntKind.bits, IntKind.signed]; omega
      clear h0 h1 h2 hz hr ht FT FU hbU hbV hB CP
      go_wp2_with fail
      clear hU
      refine (CPs.out _ HU.out).mono ?_
      rintro e5 w5 ⟨vs, rfl, ht, hq⟩
      clear u0 u1 u2
      rcases hc with rfl | ⟨hne, rfl⟩
      · obtain ⟨kind, code, neg, A3, n3, c3, lo, hi, A2, n2, c2, rfl⟩ := ht.form
        have FU := (HFU.out.below hq HFU.out.lt).alloc (.cells #[.int .i64 kind, .int .i64 code, .bool neg, .slice A3 n3 c3, .int .i64 lo, .int .i64 hi, .slice A2 n2 c2] 30)
        have HW := Lib.hid ((HUV.out.trans (hq.mono HUV.out.size)).alloc (HUV.out.trans (hq.mono HUV.out.size)).size (.cells #[.int .i64 kind, .int .i64 code, .bool neg, .slice A3 n3 c3, .int .i64 lo, .int .i64 hi, .slice A2 n2 c2] 30))
        obtain ⟨X, hX⟩ : ∃ X, w5.alloc (.cells #[.int .i64 kind, .int .i64 code, .bool neg, .slice A3 n3 c3, .int .i64 lo, .int .i64 hi, .slice A2 n2 c2] 30) = X := ⟨_, rfl⟩
        rw [hX] at FU HW
        have u1 := FU.cell 1
        have u2 := FU.cell 2
        simp at u1 u2
        clear ht FU hq CPs
        go_wp2_with fail
        refine ⟨⟨k1, rfl, by omega, HW.out⟩, ?_⟩
        simp [RowKit.intOf]
        omega
      · obtain ⟨sv, A2, c2, rfl, _, hR, _⟩ := (show TrV w5 _ (.mk 0 0 false [] 0 0 []) vs from ht).open
        obtain ⟨A3, c3, rfl⟩ := rx_store_set hR
        simp only [List.length_nil]
        have be : (e != 0) = true := bne_iff_ne.2 hne
        have FU := (HFU.out.below hq HFU.out.lt).alloc (.cells #[.int .i64 0, .int .i64 0, .bool false, .slice A3 0 c3, .int .i64 0, .int .i64 0, .slice A2 0 c2] 30)
        have FX := Blk.new w5 #[.int .i64 0, .int .i64 0, .bool false, .slice A3 0 c3, .int .i64 0, .int .i64 0, .slice A2 0 c2] 30
        have HW := Lib.hid ((HUV.out.trans (hq.mono HUV.out.size)).alloc (HUV.out.trans (hq.mono HUV.out.size)).size (.cells #[.int .i64 0, .int .i64 0, .bool false, .slice A3 0 c3, .int .i64 0, .int .i64 0, .slice A2 0 c2] 30))
        obtain ⟨X, hX⟩ : ∃ X, w5.alloc (.cells #[.int .i64 0, .int .i64 0, .bool false, .slice A3 0 c3, .int .i64 0, .int .i64 0, .slice A2 0 c2] 30) = X := ⟨_, rfl⟩
        rw [hX] at FU HW FX
        have u1 := FU.cell 1
        have u2 := FU.cell 2
        have x0 := FX.cell 0
        simp at u1 u2 x0
        clear ht FU hq CPs hR FX hne
        go_wp2_with fail
        refine ⟨⟨k1, rfl, by omega, HW.out⟩, ?_⟩
        simp [RowKit.intOf]
        omega
    · have FB := Lib.hid (HV.out.trans (hB.mono HV.out.size))
      obtain rfl : k = 18 := by omega
      clear hB
      go_wp2_with fail
      go_ret
      exact ⟨rfl, FB.out⟩
end Go.Proofs.YtmfcofiihopbfaaDoor

namespace Go.Proofs.YtmfcofiihopbfaaDoor
open Go.RowKit Go.Lib

theorem rx_env {W : World} (hT : Utf8Tabs 0 1 W) (hsh : W.ShapedOpen Tryd.prog) : REnv W :=
  ⟨hT, cell_of_shapedOpen_int (g := 2) (t := 3) (zero := #[.int .i64 0]) hsh (of_decide_eq_true (by kernel_rfl)) (by kernel_rfl) rfl (by kernel_rfl) (by kernel_rfl) (by kernel_rfl)⟩
end Go.Proofs.YtmfcofiihopbfaaDoor

namespace Go.Proofs.YtmfcofiihopbfaaDoor
open Go.RowKit Go.Lib

/-- 'string(b)' of a row of bytes that was just made. -/
theorem conv_new (W : World) (xs : List Int) (h : ∀ x ∈ xs, 0 ≤ x ∧ x ≤ 255) :
    (convert 37 9 (.slice (some ⟨W.heap.size, 0, none⟩) xs.length xs.length)).run Tryd.prog (W.alloc (.cells (xs.map (Value.int .u8)).toArray 5)) =
      .ok (.string ⟨(xs.map fun x => UInt8.ofNat x.toNat).toArray⟩) (W.alloc (.cells (xs.map (Value.int .u8)).toArray 5)) := by
  have := run_convert_bytes_back (P := Tryd.prog) (W.alloc (.cells (xs.map (Value.int .u8)).toArray 5)) 37 9 5 ⟨W.heap.size, 0, none⟩ xs.length (xs.map fun x => UInt8.ofNat x.toNat)
    Tryd.underlying37 Tryd.underlying5 Tryd.underlying9 (fun j hj => by
      have hj' : j < xs.length := by simpa using hj
      have hx := h xs[j] (List.getElem_mem hj')
      rw [Addr.add_lit, World.cell?_alloc_at _ _ _ _ rfl]
      simp [hj']
      omega)
  simpa using this
theorem conv_1 (W : World) (x : Int) (h : 0 ≤ x ∧ x ≤ 255) :
    (convert 37 9 (.slice (some ⟨W.heap.size, 0, none⟩) 1 1)).run Tryd.prog (W.alloc (.cells #[.int .u8 x] 5)) = .ok (.string ⟨#[UInt8.ofNat x.toNat]⟩) (W.alloc (.cells #[.int .u8 x] 5)) :=
  conv_new W [x] (by simpa using h)
theorem conv_2 (W : World) (x y : Int) (hx : 0 ≤ x ∧ x ≤ 255) (hy : 0 ≤ y ∧ y ≤ 255) :
    (convert 37 9 (.slice (some ⟨W.heap.size, 0, none⟩) 2 2)).run Tryd.prog (W.alloc (.cells #[.int .u8 x, .int .u8 y] 5)) = .ok (.string ⟨#[UInt8.ofNat x.toNat, UInt8.ofNat y.toNat]⟩) (W.alloc (.cells #[.int .u8 x, .int .u8 y] 5)) :=
  conv_new W [x, y] (by simp; exact ⟨hx, hy⟩)
end Go.Proofs.YtmfcofiihopbfaaDoor

namespace Go.Proofs.YtmfcofiihopbfaaDoor
open Go.RowKit Go.Lib

set_option maxRecDepth 100000 in
set_option maxHeartbeats 1000000 in
theorem rx_digits (n : Nat) (hn : n ≤ 99) (W : World) : Calls Tryd.prog 11 #[.int .i64 (n : Int)] W fun e w' => e = .returned (.string ⟨(digL n).toArray⟩) ∧ Below W.heap.size W w' := by
  by_cases h10 : n < 10
  · obtain ⟨m, hm⟩ : ∃ m, 48 + n = m := ⟨_, rfl⟩
    have hw1 : IntKind.i64.wrap (48 + (n : Int)) = (m : Int) := by simp [IntKind.wrap, IntKind.bits, IntKind.signed]; omega
    have hw2 : IntKind.u8.wrap (m : Int) = (m : Int) := by simp [IntKind.wrap, IntKind.bits, IntKind.signed]; omega
    have hc := conv_1 W (m : Int) (by omega)
    have hd : digL n = [UInt8.ofNat (m : Int).toNat] := by rw [digL, if_pos h10, hm]; rfl
    rw [hd]
    have hb := (Below.refl W.heap.size W).alloc (Nat.le_refl _) (.cells #[.int .u8 (m : Int)] 5)
    obtain ⟨X, hX⟩ : ∃ X, UInt8.ofNat (m : Int).toNat = X := ⟨_, rfl⟩
    rw [hX] at hc ⊢
    have hlt : decide ((n : Int) < 10) = true := decide_eq_true (by omega)
    have HB := Lib.hid hb
    clear hd hX hm hb
    go_enter Tryd.func11, Tryd.ntmps11
    go_wp2_with fail
    go_ret
    exact ⟨rfl, HB.out⟩
  · obtain ⟨m, hm⟩ : ∃ m, 48 + n / 10 = m := ⟨_, rfl⟩
    obtain ⟨k, hk⟩ : ∃ k, 48 + n % 10 = k := ⟨_, rfl⟩
    obtain ⟨q, hq⟩ : ∃ q, n / 10 = q := ⟨_, rfl⟩
    obtain ⟨r, hr⟩ : ∃ r, n % 10 = r := ⟨_, rfl⟩
    have hq1 : (n : Int).tdiv 10 = (q : Int) := by rw [Int.tdiv_eq_ediv_of_nonneg (by omega)]; omega
    have hr1 : (n : Int).tmod 10 = (r : Int) := by rw [Int.tmod_eq_emod_of_nonneg (by omega)]; omega
    have hqw : IntKind.i64.wrap (q : Int) = (q : Int) := by simp [IntKind.wrap, IntKind.bits, IntKind.signed]; omega
    have hrw : IntKind.i64.wrap (r : Int) = (r : Int) := by simp [IntKind.wrap, IntKind.bits, IntKind.signed]; omega
    have hw1 : IntKind.i64.wrap (48 + (q : Int)) = (m : Int) := by simp [IntKind.wrap, IntKind.bits, IntKind.signed]; omega
    have hw2 : IntKind.u8.wrap (m : Int) = (m : Int) := by simp [IntKind.wrap, IntKind.bits, IntKind.signed]; omega
    have hw3 : IntKind.i64.wrap (48 + (r : Int)) = (k : Int) := by simp [IntKind.wrap, IntKind.bits, IntKind.signed]; omega
    have hw4 : IntKind.u8.wrap (k : Int) = (k : Int) := by simp [IntKind.wrap, IntKind.bits, IntKind.signed]; omega
    have hc := conv_2 W (m : Int) (k : Int) (by omega) (by omega)
    have hd : digL n = [UInt8.ofNat (m : Int).toNat, UInt8.ofNat (k : Int).toNat] := by rw [digL, if_neg h10, hm, hk]; rfl
    rw [hd]
    have hb := (Below.refl W.heap.size W).alloc (Nat.le_refl _) (.cells #[.int .u8 (m : Int), .int .u8 (k : Int)] 5)
    obtain ⟨X, hX⟩ : ∃ X, UInt8.ofNat (m : Int).toNat = X := ⟨_, rfl⟩
    obtain ⟨Y, hY⟩ : ∃ X, UInt8.ofNat (k : Int).toNat = X := ⟨_, rfl⟩
    rw [hX, hY] at hc ⊢
    have hlt : decide ((n : Int) < 10) = false := decide_eq_false (by omega)
    have HB := Lib.hid hb
    clear hd hX hY hm hk hq hr hb
    go_enter Tryd.func11, Tryd.ntmps11
    go_wp2_with fail
    go_ret
    exact ⟨rfl, HB.out⟩
end Go.Proofs.YtmfcofiihopbfaaDoor

namespace Go.Proofs.YtmfcofiihopbfaaDoor
open Go.RowKit Go.Lib

theorem trR_new {w : World} (a c : Int) : TrV (w.alloc (.cells #[.int .i64 2, .int .i64 97, .bool false, .slice none 0 0, .int .i64 0, .int .i64 0, .slice none 0 0] 30)) (fun _ => True) (trR a c (trC 97)) #[.int .i64 7, .int .i64 0, .bool false, .slice none 0 0, .int .i64 a, .int .i64 c, .slice (some ⟨w.heap.size, 0, none⟩) 1 1] :=
  TrV.mk (kids := [trC 97]) (by simp) (RgIn.nil _ _ none 0) (ins_one (Blk.new w _ 30) trivial (TrV.leaf _ _ 2 97 false 0 0) (seven_cases rfl rfl rfl rfl rfl rfl rfl))
theorem bytes_app (a b : ByteArray) : (a ++ b).data.toList = a.data.toList ++ b.data.toList := by simp
set_option maxRecDepth 100000 in
set_option maxHeartbeats 2000000 in
theorem rxRepeats_two (lo hi : Int) {W : World} (hE : REnv W) : Calls Tryd.prog 6 #[.int .i64 lo, .int .i64 hi, .bool false] W fun e w' => e = .returned (.bool true) ∧ Below W.heap.size W w' := by
  obtain ⟨a, ha⟩ : ∃ a : Nat, min (max lo 0) 99 = (a : Int) := ⟨(min (max lo 0) 99).toNat, by omega⟩
  obtain ⟨b, hb⟩ : ∃ b : Nat, min (max hi 0) 99 = (b : Int) := ⟨(min (max hi 0) 99).toNat, by omega⟩
  have ha99 : a ≤ 99 := by omega
  have hb99 : b ≤ 99 := by omega
  obtain ⟨D, hD⟩ : ∃ D : ByteArray, (⟨(digL a).toArray⟩ : ByteArray) = D := ⟨_, rfl⟩
  obtain ⟨E, hE2⟩ : ∃ D : ByteArray, (⟨(digL b).toArray⟩ : ByteArray) = D := ⟨_, rfl⟩
  have lD : D.data.toList = digL a := by rw [← hD]
  have lE : E.data.toList = digL b := by rw [← hE2]
  have zD : D.size ≤ 2 := by rw [Lib.size_eq, lD]; exact (digL_len a).2
  have zE : E.size ≤ 2 := by rw [Lib.size_eq, lE]; exact (digL_len b).2
  have CA := Lib.hid (fun w => show Calls Tryd.prog 11 #[.int .i64 (a : Int)] w (fun e w' => e = .returned (.string D) ∧ Below w.heap.size w w') from hD ▸ rx_digits a ha99 w)
  have CB := Lib.hid (fun w => show Calls Tryd.prog 11 #[.int .i64 (b : Int)] w (fun e w' => e = .returned (.string E) ∧ Below w.heap.size w w') from hE2 ▸ rx_digits b hb99 w)
  have CF := Lib.hid (rxFixed_any hE)
  have HE := Lib.hid hE
  obtain ⟨S1, hS1⟩ : ∃ S, (⟨#[97, 123]⟩ : ByteArray) ++ D = S := ⟨_, rfl⟩
  obtain ⟨S2, hS2⟩ : ∃ S, S1 ++ (⟨#[44]⟩ : ByteArray) = S := ⟨_, rfl⟩
  obtain ⟨S3, hS3⟩ : ∃ S, S2 ++ E = S := ⟨_, rfl⟩
  obtain ⟨S4, hS4⟩ : ∃ S, S3 ++ (⟨#[125]⟩ : ByteArray) = S := ⟨_, rfl⟩
  obtain ⟨S5, hS5⟩ : ∃ S, S1 ++ (⟨#[44, 125]⟩ : ByteArray) = S := ⟨_, rfl⟩
  have l1 : S1.data.toList = 97 :: 123 :: digL a := by rw [← hS1, bytes_app, lD]; rfl
  have l2 : S2.data.toList = 97 :: 123 :: (digL a ++ [44]) := by rw [← hS2, bytes_app, l1]; rfl
  have l3 : S3.data.toList = 97 :: 123 :: (digL a ++ 44 :: digL b) := by rw [← hS3, bytes_app, l2, lE]; simp
  have l4 : S4.data.toList = 97 :: 123 :: (digL a ++ 44 :: (digL b ++ [125])) := by rw [← hS4, bytes_app, l3]; simp
  have l5 : S5.data.toList = 97 :: 123 :: (digL a ++ [44, 125]) := by rw [← hS5, bytes_app, l1]; rfl
  have q1 := digL_len a
  have q2 := digL_len b
  have z1 : S1.size ≤ 10 := by rw [Lib.size_eq, l1]; simp; omega
  have z2 : S2.size ≤ 10 := by rw [Lib.size_eq, l2]; simp; omega
  have z3 : S3.size ≤ 10 := by rw [Lib.size_eq, l3]; simp; omega
  have z4 : S4.size ≤ 1024 := by rw [Lib.size_eq, l4]; simp; omega
  have z5 : S5.size ≤ 1024 := by rw [Lib.size_eq, l5]; simp; omega
  have a1 : ∀ w, (Op.stringOp .add ⟨#[97, 123]⟩ D).run Tryd.prog w = .ok (.string S1) w := fun w => (run_string_add_sum w _ _ (by rw [show (ByteArray.mk #[97, 123]).size = 2 from rfl]; omega)).trans (by rw [hS1])
  have a2 : ∀ w, (Op.stringOp .add S1 ⟨#[44]⟩).run Tryd.prog w = .ok (.string S2) w := fun w => (run_string_add_sum w _ _ (by rw [show (ByteArray.mk #[44]).size = 1 from rfl]; omega)).trans (by rw [hS2])
  have a3 : ∀ w, (Op.stringOp .add S2 E).run Tryd.prog w = .ok (.string S3) w := fun w => (run_string_add_sum w _ _ (by omega)).trans (by rw [hS3])
  have a4 : ∀ w, (Op.stringOp .add S3 ⟨#[125]⟩).run Tryd.prog w = .ok (.string S4) w := fun w => (run_string_add_sum w _ _ (by rw [show (ByteArray.mk #[125]).size = 1 from rfl]; omega)).trans (by rw [hS4])
  have a5 : ∀ w, (Op.stringOp .add S1 ⟨#[44, 125]⟩).run Tryd.prog w = .ok (.string S5) w := fun w => (run_string_add_sum w _ _ (by rw [show (ByteArray.mk #[44, 125]).size = 2 from rfl]; omega)).trans (by rw [hS5])
  have HP := rep_parse l4 (bnd_two ha99 hb99 l4) z4 (by omega) (by omega) (by omega) (by omega)
  obtain ⟨b1, hb1⟩ : ∃ b1, b + 1 = b1 := ⟨_, rfl⟩
  obtain ⟨a2', ha2⟩ : ∃ a2, a + 2 = a2 := ⟨_, rfl⟩
  have hw1 : IntKind.i64.wrap ((b : Int) + 1) = (b1 : Int) := by simp [IntKind.wrap, IntKind.bits, IntKind.signed]; omega
  have hw2 : IntKind.i64.wrap ((a : Int) + 2) = (a2' : Int) := by simp [IntKind.wrap, IntKind.bits, IntKind.signed]; omega
  clear hD hE2 lD lE zD zE hS1 hS2 hS3 hS4 hS5 l1 l2 l3 l4 l5 q1 q2 z1 z2 z3 hE
  by_cases p1 : 30 < a
  · have hR : rxParse S4 false = (trZ, 1, 91) := by
      rw [HP, if_pos (.inl (by omega))]
    have CP := Lib.hid (fun w (hb : Below W.heap.size W w) => show Calls Tryd.prog 8 #[.string S4, .bool false] w (PrsOut w (trZ, 1, 91)) from hR ▸ rx_parse z4 false (HE.out.kept hb))
    have d1 : decide (30 < (a : Int)) = true := decide_eq_true (by omega)
    clear hR HP z4 z5 HE ha99 hb99 ha2 hb1
    go_enter Tryd.func6, Tryd.ntmps6
    go_wp2_with fail
    refine CF.out.mono ?_
    rintro e w1 ⟨rfl, hq⟩
    have HB1 := Lib.hid hq
    clear hq CF
    go_wp2_with fail
    refine (CA.out _).mono ?_
    rintro e w2 ⟨rfl, hq⟩
    have HB2 := Lib.hid (HB1.out.trans (hq.mono HB1.out.size))
    clear hq HB1
    go_wp2_with fail
    refine (CB.out _).mono ?_
    rintro e w3 ⟨rfl, hq⟩
    have HB3 := Lib.hid (HB2.out.trans (hq.mono HB2.out.size))
    clear hq HB2
    go_wp2_with fail
    refine (CP.out _ HB3.out).mono ?_
    rintro e w5 ⟨vs, rfl, ht, hq⟩
    obtain ⟨kind, code, neg, A3, n3, c3, lo', hi', A2, n2, c2, rfl⟩ := ht.form
    have HB5 := Lib.hid (HB3.out.trans (hq.mono HB3.out.size))
    have HX := Lib.hid (HB5.out.alloc HB5.out.size (.cells #[.int .i64 kind, .int .i64 code, .bool neg, .slice A3 n3 c3, .int .i64 lo', .int .i64 hi', .slice A2 n2 c2] 30))
    clear hq HB3 CP CA CB
    clear ht
    go_wp2_with fail
    go_ret
    exact ⟨rfl, HX.out⟩
  have d1 : decide (30 < (a : Int)) = false := decide_eq_false (by omega)
  by_cases p2 : 30 < b
  · have hR : rxParse S4 false = (trZ, 1, 91) := by
      rw [HP, if_pos (.inr (by omega))]
    have CP := Lib.hid (fun w (hb : Below W.heap.size W w) => show Calls Tryd.prog 8 #[.string S4, .bool false] w (PrsOut w (trZ, 1, 91)) from hR ▸ rx_parse z4 false (HE.out.kept hb))
    have d2 : decide (30 < (b : Int)) = true := decide_eq_true (by omega)
    clear hR HP z4 z5 HE ha99 hb99 ha2 hb1
    go_enter Tryd.func6, Tryd.ntmps6
    go_wp2_with fail
    refine CF.out.mono ?_
    rintro e w1 ⟨rfl, hq⟩
    have HB1 := Lib.hid hq
    clear hq CF
    go_wp2_with fail
    refine (CA.out _).mono ?_
    rintro e w2 ⟨rfl, hq⟩
    have HB2 := Lib.hid (HB1.out.trans (hq.mono HB1.out.size))
    clear hq HB1
    go_wp2_with fail
    refine (CB.out _).mono ?_
    rintro e w3 ⟨rfl, hq⟩
    have HB3 := Lib.hid (HB2.out.trans (hq.mono HB2.out.size))
    clear hq HB2
    go_wp2_with fail
    refine (CP.out _ HB3.out).mono ?_
    rintro e w5 ⟨vs, rfl, ht, hq⟩
    obtain ⟨kind, code, neg, A3, n3, c3, lo', hi', A2, n2, c2, rfl⟩ := ht.form
    have HB5 := Lib.hid (HB3.out.trans (hq.mono HB3.out.size))
    have HX := Lib.hid (HB5.out.alloc HB5.out.size (.cells #[.int .i64 kind, .int .i64 code, .bool neg, .slice A3 n3 c3, .int .i64 lo', .int .i64 hi', .slice A2 n2 c2] 30))
    clear hq HB3 CP CA CB
    clear ht
    go_wp2_with fail
    go_ret
    exact ⟨rfl, HX.out⟩
  have d2 : decide (30 < (b : Int)) = false := decide_eq_false (by omega)
  have d3 : decide (0 ≤ (b : Int)) = true := decide_eq_true (by omega)
  by_cases p3 : b < a
  · have hR : rxParse S4 false = (trZ, 1, 90) := by
      have hn : ¬ repsF ((min a 31 : Nat) : Int) ((min b 31 : Nat) : Int) = true := by unfold repsF; rw [decide_eq_true_eq]; omega
      rw [HP, if_neg (by omega), if_neg hn]
    have CP := Lib.hid (fun w (hb : Below W.heap.size W w) => show Calls Tryd.prog 8 #[.string S4, .bool false] w (PrsOut w (trZ, 1, 90)) from hR ▸ rx_parse z4 false (HE.out.kept hb))
    have d4 : decide ((b : Int) < (a : Int)) = true := decide_eq_true (by omega)
    clear hR HP z4 z5 HE ha99 hb99 ha2 hb1
    go_enter Tryd.func6, Tryd.ntmps6
    go_wp2_with fail
    refine CF.out.mono ?_
    rintro e w1 ⟨rfl, hq⟩
    have HB1 := Lib.hid hq
    clear hq CF
    go_wp2_with fail
    refine (CA.out _).mono ?_
    rintro e w2 ⟨rfl, hq⟩
    have HB2 := Lib.hid (HB1.out.trans (hq.mono HB1.out.size))
    clear hq HB1
    go_wp2_with fail
    refine (CB.out _).mono ?_
    rintro e w3 ⟨rfl, hq⟩
    have HB3 := Lib.hid (HB2.out.trans (hq.mono HB2.out.size))
    clear hq HB2
    go_wp2_with fail
    refine (CP.out _ HB3.out).mono ?_
    rintro e w5 ⟨vs, rfl, ht, hq⟩
    obtain ⟨kind, code, neg, A3, n3, c3, lo', hi', A2, n2, c2, rfl⟩ := ht.form
    have HB5 := Lib.hid (HB3.out.trans (hq.mono HB3.out.size))
    have HX := Lib.hid (HB5.out.alloc HB5.out.size (.cells #[.int .i64 kind, .int .i64 code, .bool neg, .slice A3 n3 c3, .int .i64 lo', .int .i64 hi', .slice A2 n2 c2] 30))
    clear hq HB3 CP CA CB
    clear ht
    go_wp2_with fail
    go_ret
    exact ⟨rfl, HX.out⟩
  have d4 : decide ((b : Int) < (a : Int)) = false := decide_eq_false (by omega)
  have d5 : decide (b < a) = false := decide_eq_false (by omega)
  have hR : rxParse S4 false = (trR (a : Int) (b : Int) (trC 97), 0, 0) := by
    have hn : repsF ((min a 31 : Nat) : Int) ((min b 31 : Nat) : Int) = true := by unfold repsF; rw [decide_eq_true_eq]; omega
    rw [HP, if_neg (by omega), if_pos hn, show min a 31 = a by omega, show min b 31 = b by omega]
  have CP := Lib.hid (fun w (hb : Below W.heap.size W w) => show Calls Tryd.prog 8 #[.string S4, .bool false] w (PrsOut w (trR (a : Int) (b : Int) (trC 97), 0, 0)) from hR ▸ rx_parse z4 false (HE.out.kept hb))
  have WT : (trR (a : Int) (b : Int) (trC 97)).wt = (b1 : Int) := by rw [rep_wt (by omega) (by omega) (by omega) (by omega), if_neg (by omega)]; omega
  clear hR HP z4 z5 HE ha99 hb99 ha2 hb1 p1 p2 p3
  go_enter Tryd.func6, Tryd.ntmps6
  go_wp2_with fail
  refine CF.out.mono ?_
  rintro e w1 ⟨rfl, hq⟩
  have HB1 := Lib.hid hq
  clear hq CF
  go_wp2_with fail
  refine (CA.out _).mono ?_
  rintro e w2 ⟨rfl, hq⟩
  have HB2 := Lib.hid (HB1.out.trans (hq.mono HB1.out.size))
  clear hq HB1
  go_wp2_with fail
  refine (CB.out _).mono ?_
  rintro e w3 ⟨rfl, hq⟩
  have HB3 := Lib.hid (HB2.out.trans (hq.mono HB2.out.size))
  clear hq HB2
  go_wp2_with fail
  refine (CP.out _ HB3.out).mono ?_
  rintro e w5 ⟨vs, rfl, ht, hq⟩
  obtain ⟨kind, code, neg, A3, n3, c3, lo', hi', A2, n2, c2, rfl⟩ := ht.form
  have HB5 := Lib.hid (HB3.out.trans (hq.mono HB3.out.size))
  have HX := Lib.hid (HB5.out.alloc HB5.out.size (.cells #[.int .i64 kind, .int .i64 code, .bool neg, .slice A3 n3 c3, .int .i64 lo', .int .i64 hi', .slice A2 n2 c2] 30))
  clear hq HB3 CP CA CB
  have FT := Blk.new w5 #[.int .i64 kind, .int .i64 code, .bool neg, .slice A3 n3 c3, .int .i64 lo', .int .i64 hi', .slice A2 n2 c2] 30
  have HF := Lib.hid FT
  have HT := Lib.hid (fun (w : World) (hb : Below w5.heap.size w5 w) => ht.kept (w' := w) (P' := fun _ => True) (fun g hg _ => ⟨trivial, hb.block g hg⟩))
  have hbx := (Below.refl w5.heap.size w5).alloc (Nat.le_refl _) (.cells #[.int .i64 kind, .int .i64 code, .bool neg, .slice A3 n3 c3, .int .i64 lo', .int .i64 hi', .slice A2 n2 c2] 30)
  obtain ⟨⟨x0, x1, x2, x3, x4, x5, x6⟩, _⟩ := FT.seven
  have HBX := Lib.hid hbx
  obtain ⟨X, hX⟩ : ∃ X, w5.alloc (.cells #[.int .i64 kind, .int .i64 code, .bool neg, .slice A3 n3 c3, .int .i64 lo', .int .i64 hi', .slice A2 n2 c2] 30) = X := ⟨_, rfl⟩
  rw [hX] at x0 x1 x2 x3 x4 x5 x6 HF HX HBX
  clear FT ht hbx
  go_wp2_with fail
  clear hX x0 x1 x2 x3 x4 x5 x6
  have hbn := (Below.refl X.heap.size X).alloc (Nat.le_refl _) (.cells #[.int .i64 2, .int .i64 97, .bool false, .slice none 0 0, .int .i64 0, .int .i64 0, .slice none 0 0] 30)
  refine (rx_same (HT.out _ (HBX.out.trans (hbn.mono HBX.out.size))) (trR_new _ _)).mono ?_
  rintro e w6 ⟨rfl, hq⟩
  have hb6 : Below X.heap.size X w6 := hbn.trans (hq.mono hbn.size)
  have HB6 := Lib.hid (HX.out.trans (hb6.mono HX.out.size))
  have HBY := Lib.hid (HBX.out.trans (hb6.mono HBX.out.size))
  obtain ⟨⟨x0, x1, x2, x3, x4, x5, x6⟩, _⟩ := (HF.out.below hb6 HF.out.lt).seven
  clear hq hbn hb6 HX HBX HF
  go_wp2_with fail
  have CW := rx_weight (HT.out _ HBY.out)
  rw [WT] at CW
  refine CW.mono ?_
  rintro e w7 ⟨rfl, hq⟩
  have HB7 := Lib.hid (HB6.out.trans (hq.mono HB6.out.size))
  clear hq CW HB6 HBY HT x0 x1 x2 x3 x4 x5 x6
  go_wp2_with fail
  go_ret
  exact ⟨rfl, HB7.out⟩
set_option maxRecDepth 100000 in
set_option maxHeartbeats 2000000 in
theorem rxRepeats_open (lo hi : Int) {W : World} (hE : REnv W) : Calls Tryd.prog 6 #[.int .i64 lo, .int .i64 hi, .bool true] W fun e w' => e = .returned (.bool true) ∧ Below W.heap.size W w' := by
  obtain ⟨a, ha⟩ : ∃ a : Nat, min (max lo 0) 99 = (a : Int) := ⟨(min (max lo 0) 99).toNat, by omega⟩
  obtain ⟨b, hb⟩ : ∃ b : Nat, min (max hi 0) 99 = (b : Int) := ⟨(min (max hi 0) 99).toNat, by omega⟩
  have ha99 : a ≤ 99 := by omega
  have hb99 : b ≤ 99 := by omega
  obtain ⟨D, hD⟩ : ∃ D : ByteArray, (⟨(digL a).toArray⟩ : ByteArray) = D := ⟨_, rfl⟩
  obtain ⟨E, hE2⟩ : ∃ D : ByteArray, (⟨(digL b).toArray⟩ : ByteArray) = D := ⟨_, rfl⟩
  have lD : D.data.toList = digL a := by rw [← hD]
  have lE : E.data.toList = digL b := by rw [← hE2]
  have zD : D.size ≤ 2 := by rw [Lib.size_eq, lD]; exact (digL_len a).2
  have zE : E.size ≤ 2 := by rw [Lib.size_eq, lE]; exact (digL_len b).2
  have CA := Lib.hid (fun w => show Calls Tryd.prog 11 #[.int .i64 (a : Int)] w (fun e w' => e = .returned (.string D) ∧ Below w.heap.size w w') from hD ▸ rx_digits a ha99 w)
  have CB := Lib.hid (fun w => show Calls Tryd.prog 11 #[.int .i64 (b : Int)] w (fun e w' => e = .returned (.string E) ∧ Below w.heap.size w w') from hE2 ▸ rx_digits b hb99 w)
  have CF := Lib.hid (rxFixed_any hE)
  have HE := Lib.hid hE
  obtain ⟨S1, hS1⟩ : ∃ S, (⟨#[97, 123]⟩ : ByteArray) ++ D = S := ⟨_, rfl⟩
  obtain ⟨S2, hS2⟩ : ∃ S, S1 ++ (⟨#[44]⟩ : ByteArray) = S := ⟨_, rfl⟩
  obtain ⟨S3, hS3⟩ : ∃ S, S2 ++ E = S := ⟨_, rfl⟩
  obtain ⟨S4, hS4⟩ : ∃ S, S3 ++ (⟨#[125]⟩ : ByteArray) = S := ⟨_, rfl⟩
  obtain ⟨S5, hS5⟩ : ∃ S, S1 ++ (⟨#[44, 125]⟩ : ByteArray) = S := ⟨_, rfl⟩
  have l1 : S1.data.toList = 97 :: 123 :: digL a := by rw [← hS1, bytes_app, lD]; rfl
  have l2 : S2.data.toList = 97 :: 123 :: (digL a ++ [44]) := by rw [← hS2, bytes_app, l1]; rfl
  have l3 : S3.data.toList = 97 :: 123 :: (digL a ++ 44 :: digL b) := by rw [← hS3, bytes_app, l2, lE]; simp
  have l4 : S4.data.toList = 97 :: 123 :: (digL a ++ 44 :: (digL b ++ [125])) := by rw [← hS4, bytes_app, l3]; simp
  have l5 : S5.data.toList = 97 :: 123 :: (digL a ++ [44, 125]) := by rw [← hS5, bytes_app, l1]; rfl
  have q1 := digL_len a
  have q2 := digL_len b
  have z1 : S1.size ≤ 10 := by rw [Lib.size_eq, l1]; simp; omega
  have z2 : S2.size ≤ 10 := by rw [Lib.size_eq, l2]; simp; omega
  have z3 : S3.size ≤ 10 := by rw [Lib.size_eq, l3]; simp; omega
  have z4 : S4.size ≤ 1024 := by rw [Lib.size_eq, l4]; simp; omega
  have z5 : S5.size ≤ 1024 := by rw [Lib.size_eq, l5]; simp; omega
  have a1 : ∀ w, (Op.stringOp .add ⟨#[97, 123]⟩ D).run Tryd.prog w = .ok (.string S1) w := fun w => (run_string_add_sum w _ _ (by rw [show (ByteArray.mk #[97, 123]).size = 2 from rfl]; omega)).trans (by rw [hS1])
  have a2 : ∀ w, (Op.stringOp .add S1 ⟨#[44]⟩).run Tryd.prog w = .ok (.string S2) w := fun w => (run_string_add_sum w _ _ (by rw [show (ByteArray.mk #[44]).size = 1 from rfl]; omega)).trans (by rw [hS2])
  have a3 : ∀ w, (Op.stringOp .add S2 E).run Tryd.prog w = .ok (.string S3) w := fun w => (run_string_add_sum w _ _ (by omega)).trans (by rw [hS3])
  have a4 : ∀ w, (Op.stringOp .add S3 ⟨#[125]⟩).run Tryd.prog w = .ok (.string S4) w := fun w => (run_string_add_sum w _ _ (by rw [show (ByteArray.mk #[125]).size = 1 from rfl]; omega)).trans (by rw [hS4])
  have a5 : ∀ w, (Op.stringOp .add S1 ⟨#[44, 125]⟩).run Tryd.prog w = .ok (.string S5) w := fun w => (run_string_add_sum w _ _ (by rw [show (ByteArray.mk #[44, 125]).size = 2 from rfl]; omega)).trans (by rw [hS5])
  have HP := rep_parse l5 (bnd_open ha99 l5) z5 (by omega) (by omega) (by omega) (by omega)
  obtain ⟨b1, hb1⟩ : ∃ b1, b + 1 = b1 := ⟨_, rfl⟩
  obtain ⟨a2', ha2⟩ : ∃ a2, a + 2 = a2 := ⟨_, rfl⟩
  have hw1 : IntKind.i64.wrap ((b : Int) + 1) = (b1 : Int) := by simp [IntKind.wrap, IntKind.bits, IntKind.signed]; omega
  have hw2 : IntKind.i64.wrap ((a : Int) + 2) = (a2' : Int) := by simp [IntKind.wrap, IntKind.bits, IntKind.signed]; omega
  clear hD hE2 lD lE zD zE hS1 hS2 hS3 hS4 hS5 l1 l2 l3 l4 l5 q1 q2 z1 z2 z3 hE
  have d2 : decide ((30 : Int) < -1) = false := by decide
  by_cases p1 : 30 < a
  · have hR : rxParse S5 false = (trZ, 1, 91) := by
      rw [HP, if_pos (.inl (by omega))]
    have CP := Lib.hid (fun w (hb : Below W.heap.size W w) => show Calls Tryd.prog 8 #[.string S5, .bool false] w (PrsOut w (trZ, 1, 91)) from hR ▸ rx_parse z5 false (HE.out.kept hb))
    have d1 : decide (30 < (a : Int)) = true := decide_eq_true (by omega)
    clear hR HP z4 z5 HE ha99 hb99 ha2 hb1
    go_enter Tryd.func6, Tryd.ntmps6
    go_wp2_with fail
    refine CF.out.mono ?_
    rintro e w1 ⟨rfl, hq⟩
    have HB1 := Lib.hid hq
    clear hq CF
    go_wp2_with fail
    refine (CA.out _).mono ?_
    rintro e w2 ⟨rfl, hq⟩
    have HB2 := Lib.hid (HB1.out.trans (hq.mono HB1.out.size))
    clear hq HB1
    go_wp2_with fail
    refine (CB.out _).mono ?_
    rintro e w3 ⟨rfl, hq⟩
    have HB3 := Lib.hid (HB2.out.trans (hq.mono HB2.out.size))
    clear hq HB2
    go_wp2_with fail
    refine (CA.out _).mono ?_
    rintro e w4 ⟨rfl, hq⟩
    have HB4 := Lib.hid (HB3.out.trans (hq.mono HB3.out.size))
    clear hq HB3
    go_wp2_with fail
    refine (CP.out _ HB4.out).mono ?_
    rintro e w5 ⟨vs, rfl, ht, hq⟩
    obtain ⟨kind, code, neg, A3, n3, c3, lo', hi', A2, n2, c2, rfl⟩ := ht.form
    have HB5 := Lib.hid (HB4.out.trans (hq.mono HB4.out.size))
    have HX := Lib.hid (HB5.out.alloc HB5.out.size (.cells #[.int .i64 kind, .int .i64 code, .bool neg, .slice A3 n3 c3, .int .i64 lo', .int .i64 hi', .slice A2 n2 c2] 30))
    clear hq HB4 CP CA CB
    clear ht
    go_wp2_with fail
    go_ret
    exact ⟨rfl, HX.out⟩
  have d1 : decide (30 < (a : Int)) = false := decide_eq_false (by omega)
  have hR : rxParse S5 false = (trR (a : Int) (-1) (trC 97), 0, 0) := by
    have hn : repsF ((min a 31 : Nat) : Int) (-1) = true := by unfold repsF; rw [decide_eq_true_eq]; omega
    rw [HP, if_neg (by omega), if_pos hn, show min a 31 = a by omega]
  have CP := Lib.hid (fun w (hb : Below W.heap.size W w) => show Calls Tryd.prog 8 #[.string S5, .bool false] w (PrsOut w (trR (a : Int) (-1) (trC 97), 0, 0)) from hR ▸ rx_parse z5 false (HE.out.kept hb))
  have WT : (trR (a : Int) (-1) (trC 97)).wt = (a2' : Int) := by rw [rep_wt (by omega) (by omega) (by omega) (by omega), if_pos (by omega)]; omega
  clear hR HP z4 z5 HE ha99 hb99 ha2 hb1 p1
  go_enter Tryd.func6, Tryd.ntmps6
  go_wp2_with fail
  refine CF.out.mono ?_
  rintro e w1 ⟨rfl, hq⟩
  have HB1 := Lib.hid hq
  clear hq CF
  go_wp2_with fail
  refine (CA.out _).mono ?_
  rintro e w2 ⟨rfl, hq⟩
  have HB2 := Lib.hid (HB1.out.trans (hq.mono HB1.out.size))
  clear hq HB1
  go_wp2_with fail
  refine (CB.out _).mono ?_
  rintro e w3 ⟨rfl, hq⟩
  have HB3 := Lib.hid (HB2.out.trans (hq.mono HB2.out.size))
  clear hq HB2
  go_wp2_with fail
  refine (CA.out _).mono ?_
  rintro e w4 ⟨rfl, hq⟩
  have HB4 := Lib.hid (HB3.out.trans (hq.mono HB3.out.size))
  clear hq HB3
  go_wp2_with fail
  refine (CP.out _ HB4.out).mono ?_
  rintro e w5 ⟨vs, rfl, ht, hq⟩
  obtain ⟨kind, code, neg, A3, n3, c3, lo', hi', A2, n2, c2, rfl⟩ := ht.form
  have HB5 := Lib.hid (HB4.out.trans (hq.mono HB4.out.size))
  have HX := Lib.hid (HB5.out.alloc HB5.out.size (.cells #[.int .i64 kind, .int .i64 code, .bool neg, .slice A3 n3 c3, .int .i64 lo', .int .i64 hi', .slice A2 n2 c2] 30))
  clear hq HB4 CP CA CB
  have FT := Blk.new w5 #[.int .i64 kind, .int .i64 code, .bool neg, .slice A3 n3 c3, .int .i64 lo', .int .i64 hi', .slice A2 n2 c2] 30
  have HF := Lib.hid FT
  have HT := Lib.hid (fun (w : World) (hb : Below w5.heap.size w5 w) => ht.kept (w' := w) (P' := fun _ => True) (fun g hg _ => ⟨trivial, hb.block g hg⟩))
  have hbx := (Below.refl w5.heap.size w5).alloc (Nat.le_refl _) (.cells #[.int .i64 kind, .int .i64 code, .bool neg, .slice A3 n3 c3, .int .i64 lo', .int .i64 hi', .slice A2 n2 c2] 30)
  obtain ⟨⟨x0, x1, x2, x3, x4, x5, x6⟩, _⟩ := FT.seven
  have HBX := Lib.hid hbx
  obtain ⟨X, hX⟩ : ∃ X, w5.alloc (.cells #[.int .i64 kind, .int .i64 code, .bool neg, .slice A3 n3 c3, .int .i64 lo', .int .i64 hi', .slice A2 n2 c2] 30) = X := ⟨_, rfl⟩
  rw [hX] at x0 x1 x2 x3 x4 x5 x6 HF HX HBX
  clear FT ht hbx
  go_wp2_with fail
  clear hX x0 x1 x2 x3 x4 x5 x6
  have hbn := (Below.refl X.heap.size X).alloc (Nat.le_refl _) (.cells #[.int .i64 2, .int .i64 97, .bool false, .slice none 0 0, .int .i64 0, .int .i64 0, .slice none 0 0] 30)
  refine (rx_same (HT.out _ (HBX.out.trans (hbn.mono HBX.out.size))) (trR_new _ _)).mono ?_
  rintro e w6 ⟨rfl, hq⟩
  have hb6 : Below X.heap.size X w6 := hbn.trans (hq.mono hbn.size)
  have HB6 := Lib.hid (HX.out.trans (hb6.mono HX.out.size))
  have HBY := Lib.hid (HBX.out.trans (hb6.mono HBX.out.size))
  obtain ⟨⟨x0, x1, x2, x3, x4, x5, x6⟩, _⟩ := (HF.out.below hb6 HF.out.lt).seven
  clear hq hbn hb6 HX HBX HF
  go_wp2_with fail
  have CW := rx_weight (HT.out _ HBY.out)
  rw [WT] at CW
  refine CW.mono ?_
  rintro e w7 ⟨rfl, hq⟩
  have HB7 := Lib.hid (HB6.out.trans (hq.mono HB6.out.size))
  clear hq CW HB6 HBY HT x0 x1 x2 x3 x4 x5 x6
  go_wp2_with fail
  go_ret
  exact ⟨rfl, HB7.out⟩
theorem rxRepeats_any (lo hi : Int) (op : Bool) {W : World} (hE : REnv W) : Calls Tryd.prog 6 #[.int .i64 lo, .int .i64 hi, .bool op] W fun e w' => e = .returned (.bool true) ∧ Below W.heap.size W w' := by
  cases op
  · exact rxRepeats_two lo hi hE
  · exact rxRepeats_open lo hi hE
end Go.Proofs.YtmfcofiihopbfaaDoor
