/- Several texts in one (Contracts of layer 9: sets, and what stands behind a backslash; Contracts of layer 9: what stands behind a backslash (printed by tools/gen_marked.py); Contracts of layer 9: a node (printed by tools/gen_node.py); Contracts of layer 9: repeats; the row of nodes when its last is repeated, or one more comes; Layer 9: the row of nodes in memory, when its last is repeated, and when one more comes). -/
import Derived.Test.YtdfacbcenogplaaDoorPk6
namespace Go.Proofs.YtdfacbcenogplaaDoor
open Go.RowKit Go.Lib

theorem bnd_app {l m : List (Int × Int)} (h : Bnd l) (k : Bnd m) : Bnd (l ++ m) := fun r hr => by
  rcases List.mem_append.1 hr with hr | hr
  · exact h r hr
  · exact k r hr
theorem fit_app {l m : List (Int × Int)} (h : Fit l) (k : Fit m) : Fit (l ++ m) := fun r hr => by
  rcases List.mem_append.1 hr with hr | hr
  · exact h r hr
  · exact k r hr
theorem off_grownBy {pb : Nat} {W W' : World} (h : Off2 pb pb W W') : W.grownBy W' (some pb) :=
  ⟨h.os, h.tape, h.output, h.size, fun k hk hne => h.block k hk (fun e => hne (by rw [e])) (fun e => hne (by rw [e]))⟩
theorem own_off {pb n : Nat} {W W' : World} {t : TypeId} {z : Nat} {v : Value} {k : Nat} {xs : List Value} (h : W.ownsRow n t z v k xs) (o : Off2 pb pb W W') (hp : pb < n) : W'.ownsRow n t z v k xs :=
  h.kept (off_grownBy o) (by
    cases e : v.ownBlock with
    | none => exact .inl rfl
    | some q => exact .inr (fun e2 => by cases e2; have := (h.lt _ e).1; omega))
/-- A row that is turned, aside. -/
theorem Stp.aside {pb q : Nat} {s : ByteArray} {b : Bool} {j n : Nat} {W W1 W2 : World} (h : Stp pb s b j n W W1) (o : Off2 q q W1 W2) (hq : W.heap.size ≤ q) (hne : pb ≠ q) : Stp pb s b j n W W2 :=
  ⟨⟨(o.block pb (Blk.lt h.prs) hne hne).trans h.prs.row⟩, ⟨o.os.trans h.off.os, o.tape.trans h.off.tape, o.output.trans h.off.output, Nat.le_trans h.off.size o.size, fun i hi h1 h2 => (o.block i (Nat.lt_of_lt_of_le hi h.off.size) (by omega) (by omega)).trans (h.off.block i hi h1 h2)⟩⟩
theorem rng_news {W : World} {g : Nat} {l : List (Int × Int)} (h : RngR W g l) : ∀ j u, (flatR l)[j]? = some u → W.cell? ((⟨g, 0, none⟩ : Addr).add j) = some u := fun j u hu => by
  have hj : j < (flatR l).length := (List.getElem?_eq_some_iff.1 hu).1
  rw [flatR_len] at hj
  rw [Addr.add_lit, Nat.zero_add]
  have hl : j / 2 < l.length := by omega
  obtain ⟨a, b⟩ := flatR_at l (j / 2) _ (List.getElem?_eq_getElem hl)
  obtain ⟨⟨c, d⟩, _⟩ := h (j / 2) _ (List.getElem?_eq_getElem hl)
  rcases Nat.mod_two_eq_zero_or_one j with m | m
  · rw [show j / 2 * 2 = j by omega] at a c
    rw [a] at hu
    rw [c, ← hu]
  · rw [show j / 2 * 2 + 1 = j by omega] at b d
    rw [b] at hu
    rw [d, ← hu]
theorem flat_one (l : List (Int × Int)) : ∀ u ∈ flatR l, u.oneCell' = true := by
  intro u hu
  unfold flatR at hu
  obtain ⟨r, _, hr⟩ := List.mem_flatMap.1 hu
  simp [encR] at hr
  rcases hr with rfl | rfl <;> rfl
/-- A set's node, of its ranges as they were read. -/
def brkM (neg : Bool) : Rs (List (Int × Int)) → Rs Tr
  | .bad k e => .bad k e
  | .ok l k => .ok (trS neg (joinR l)) k
theorem brk_is (s : ByteArray) (b : Bool) (a i : Nat) : brkF s b a i = brkM (st1 s i 94) (setF s b a (s.size + 1) true (if st1 s i 94 then i + 1 else i) []) := by
  unfold brkF brkM
  cases setF s b a (s.size + 1) true (if st1 s i 94 then i + 1 else i) [] <;> rfl
set_option maxRecDepth 100000 in
set_option maxHeartbeats 2000000 in
theorem rx_set {W : World} {pb a : Nat} {s : ByteArray} {b : Bool} {i n : Nat} (h : Prs W pb s b i n) (hi : i ≤ s.size) (hs : s.size ≤ 1024) (hE : Env W pb) :
    Calls Tryd.prog 141 #[pbP pb, .int .i64 (a : Int)] W (RxOut (gTr W.heap.size) pb s b n W (brkF s b a i)) := by
  have hlt := Blk.lt h
  have F0 := Blk.new W zero7 58
  have S0 := (Stp.refl h).alloc (.cells zero7 58)
  obtain ⟨i0, hi0, hz0, hz1, hz2⟩ := info_parts info_rng
  have HI := Lib.hid (And.intro hi0 (And.intro hz0 (And.intro hz1 hz2)))
  have hE0 := hE.step S0 hlt
  have hsz0 : (W.alloc (.cells zero7 58)).heap.size = W.heap.size + 1 := by simp
  obtain ⟨W0, hW0⟩ : ∃ W0, W.alloc (.cells zero7 58) = W0 := ⟨_, rfl⟩
  rw [hW0] at F0 S0 hE0 hsz0
  have hlt0 : pb < W0.heap.size := by omega
  have hsA : W.heap.size < W0.heap.size := by omega
  have hsB : W0.heap.size ≤ W.heap.size + 1 := by omega
  clear hsz0
  have HE := Lib.hid (fun W1 (j : Nat) (hS : Stp pb s b j n W0 W1) => hE0.step hS hlt0)
  obtain ⟨p0, h0⟩ : ∃ p, st1 s i 94 = p := ⟨_, rfl⟩
  have C0 := Lib.hid (rx_take1 S0.prs hi hs 94 p0 h0)
  have hi1 : (if p0 = true then i + 1 else i) ≤ s.size := by
    cases p0
    · exact hi
    · exact st1_lt h0
  rw [brk_is, h0]
  have HS0 := Lib.hid S0
  have HF0 := Lib.hid F0
  obtain ⟨i1, hi1'⟩ : ∃ i1, (if p0 = true then i + 1 else i) = i1 := ⟨_, rfl⟩
  rw [hi1'] at hi1
  rw [hi1'] at C0
  have e1 : (if p0 = true then i + 1 else i) = i1 := hi1'
  rw [e1]
  obtain ⟨R, hR⟩ : ∃ R, setF s b a (s.size + 1) true i1 [] = R := ⟨_, rfl⟩
  have HR := Lib.hid hR
  rw [hR]
  clear h hE S0 F0 hE0 h0 hi0 hz0 hz1 hz2 e1 hi1' hR
  go_enter Tryd.func141, Tryd.ntmps141
  go_wp2_with fail
  clear hW0
  refine C0.out.mono ?_
  rintro e W1 ⟨rfl, hS⟩
  have HS1 := Lib.hid hS
  clear hS C0
  go_wp2_with fail
  go_loopw [6, 7] (fun sv fv wr => ∃ (v : Value) (first : Bool) (j f : Nat) (acc : List (Int × Int)), v = sv ∧ fv = .bool first ∧ Stp pb s b j n W0 wr ∧ Blk wr W.heap.size zero7 58 ∧ j ≤ s.size ∧ wr.ownsRow W0.heap.size 143 2 v acc.length (flatR acc) ∧ Bnd acc ∧ Fit acc ∧ acc.length ≤ 4 * j ∧ (first = false → acc ≠ []) ∧ setF s b a f first j acc = R ∧ s.size - j < f) (fun _ _ wr => s.size - (match wr.cell? ⟨pb, 2, none⟩ with | some v => (RowKit.intOf v).toNat | none => 0))
  case atStart =>
    refine ⟨_, true, i1, s.size + 1, [], rfl, rfl, HS1.out, ⟨(HS1.out.off.block _ HF0.out.lt (by omega) (by omega)).trans HF0.out.row⟩, hi1, World.ownsRow_nil _ _ _ _, ?_, ?_, by simp, ?_, HR.out, by omega⟩
    · intro r hr; simp at hr
    · intro r hr; simp at hr
    · intro h; cases h
  case round =>
    obtain ⟨v, first, j, f, acc, rfl, rfl, hS, hF0, hj, hO, hB, hF, hal, hne0, hR2, hf⟩ := hrel
    have HSr := Lib.hid hS
    obtain ⟨f1, rfl⟩ : ∃ g, f = g + 1 := ⟨f - 1, by omega⟩
    have q2r := hS.prs.four.2.2.1
    rw [setF] at hR2
    cases first with
    | true =>
      simp only [Bool.not_true, Bool.false_and, Bool.false_eq_true, if_false] at hR2
      obtain ⟨Q, hQ⟩ : ∃ Q, itmF s b a j = Q := ⟨_, rfl⟩
      have CI := Lib.hid (fun W1 (hS : Stp pb s b j n W0 W1) => rx_item (a := a) hS.prs hj hs (HE.out _ _ hS))
      rw [hQ] at CI hR2
      cases Q with
      | bad k er =>
        have HR2 := Lib.hid (show R = .bad k er from hR2.symm)
        clear hQ hR2 hO hF0 hB hF hne0 hS q2r
        go_wp2_with fail
        have HSX := Lib.hid HSr.out
        have HSXr := Lib.hid (Stp.refl HSr.out.prs)
        refine (CI.out _ HSX.out).mono ?_
        rintro e w3 ⟨rfl, hOf⟩
        have HO := Lib.hid (HSX.out.off.trans hOf)
        clear hOf CI
        go_wp2_with fail
        rw [HR2.out]
        exact ⟨rfl, rfl, HS0.out.off.trans HO.out⟩
      | ok l k =>
        have hjk := itm_in hj hQ
        have HR2 := Lib.hid hR2
        have HO0 := Lib.hid hO
        have HF := Lib.hid hF0
        have HB := Lib.hid hB
        have HFi := Lib.hid hF
        clear hQ hR2 hO hF0 hB hF hne0 hS
        go_wp2_with fail
        have HSX := Lib.hid HSr.out
        have HSXr := Lib.hid (Stp.refl HSr.out.prs)
        refine (CI.out _ HSX.out).mono ?_
        rintro e w3 ⟨vv, rfl, ⟨g, gc, rfl, hg, hrg, hne, hl4, hbl, hfl⟩, hS3⟩
        have SXr := HSXr.out.trans hS3
        have S3 := Lib.hid (HSX.out.trans hS3)
        have O3 := Lib.hid (own_off HO0.out SXr.off hlt0)
        have F3 := Lib.hid (show Blk w3 W.heap.size zero7 58 from ⟨(SXr.off.block _ HF.out.lt (by omega) (by omega)).trans HF.out.row⟩)
        have RN := Lib.hid (rng_news hrg)
        have GB := Lib.hid (And.intro hbl hfl)
        have hz3 := S3.out.off.size
        have hln : l.length ≠ 0 := fun e => hne (List.length_eq_zero_iff.1 e)
        clear hS3 SXr hrg hbl hfl HO0 HF CI HSX HSXr hne
        go_wp2_with (at_builtin; refine wpList_append_own_at _ rfl _ _ 55 rfl W0.heap.size 143 i0 _ 2 16 Tryd.underlying55 HI.out.1 HI.out.2.1 HI.out.2.2.1 HI.out.2.2.2 rfl (by decide) _ acc.length (flatR acc) rfl O3.out ⟨g, 0, none⟩ l.length gc (flatR l) rfl (flatR_len l) RN.out (flat_one l) (by unfold maxLen; omega) (by omega) (by omega) ?_)
        rintro v' w4 ho hgr _ _
        have hvb : ∀ q, v.ownBlock = some q → W0.heap.size ≤ q := fun q hq => (O3.out.lt q hq).1
        have P4 : Prs w4 pb s b k n := Blk.grown S3.out.prs hgr (fun e => by have := hvb pb e.symm; omega)
        have S4 := Lib.hid (show Stp pb s b k n W0 w4 from ⟨P4, ⟨hgr.os.trans S3.out.off.os, hgr.tape.trans S3.out.off.tape, hgr.output.trans S3.out.off.output, Nat.le_trans S3.out.off.size hgr.size, fun c hc h1 h2 => (hgr.block c (Nat.lt_of_lt_of_le hc S3.out.off.size) (fun e => by have := hvb c e.symm; omega)).trans (S3.out.off.block c hc h1 h2)⟩⟩)
        have F4 := Lib.hid (Blk.grown F3.out hgr (fun e => by have := hvb _ e.symm; omega))
        have q4 := P4.four.2.2.1
        have HO4 := Lib.hid (show w4.ownsRow W0.heap.size 143 2 v' (acc ++ l).length (flatR (acc ++ l)) by rw [flatR_app, List.length_append]; exact ho)
        clear ho hgr P4 hvb RN F3 O3 S3
        go_wp2_with fail
        refine ⟨⟨v', false, k, f1, acc ++ l, rfl, rfl, S4.out, F4.out, hjk.2, HO4.out, bnd_app HB.out GB.out.1, fit_app HFi.out GB.out.2, by rw [List.length_append]; omega, fun _ e => hln (by rw [(List.append_eq_nil_iff.1 e).2]; rfl), HR2.out, by omega⟩, ?_⟩
        rw [q4, q2r]
        simp [RowKit.intOf]
        omega
    | false =>
      obtain ⟨p, hp⟩ : ∃ p, st1 s j 93 = p := ⟨_, rfl⟩
      have CT := Lib.hid (rx_take1 hS.prs hj hs 93 p hp)
      rw [hp] at hR2
      cases p with
      | false =>
        simp only [Bool.not_false, Bool.true_and, Bool.false_eq_true, if_false] at hR2
        clear hp
        obtain ⟨Q, hQ⟩ : ∃ Q, itmF s b a j = Q := ⟨_, rfl⟩
        have CI := Lib.hid (fun W1 (hS : Stp pb s b j n W0 W1) => rx_item (a := a) hS.prs hj hs (HE.out _ _ hS))
        rw [hQ] at CI hR2
        cases Q with
        | bad k er =>
          have HR2 := Lib.hid (show R = .bad k er from hR2.symm)
          clear hQ hR2 hO hF0 hB hF hne0 hS q2r
          go_wp2_with fail
          refine (CT.out).mono ?_
          rintro e w2 ⟨rfl, hSt⟩
          have HSX := Lib.hid (show Stp pb s b j n W0 w2 from HSr.out.trans hSt)
          have HSXr := Lib.hid (show Stp pb s b j n wr w2 from hSt)
          clear hSt CT
          go_wp2_with fail
          refine (CI.out _ HSX.out).mono ?_
          rintro e w3 ⟨rfl, hOf⟩
          have HO := Lib.hid (HSX.out.off.trans hOf)
          clear hOf CI
          go_wp2_with fail
          rw [HR2.out]
          exact ⟨rfl, rfl, HS0.out.off.trans HO.out⟩
        | ok l k =>
          have hjk := itm_in hj hQ
          have HR2 := Lib.hid hR2
          have HO0 := Lib.hid hO
          have HF := Lib.hid hF0
          have HB := Lib.hid hB
          have HFi := Lib.hid hF
          clear hQ hR2 hO hF0 hB hF hne0 hS
          go_wp2_with fail
          refine (CT.out).mono ?_
          rintro e w2 ⟨rfl, hSt⟩
          have HSX := Lib.hid (show Stp pb s b j n W0 w2 from HSr.out.trans hSt)
          have HSXr := Lib.hid (show Stp pb s b j n wr w2 from hSt)
          clear hSt CT
          go_wp2_with fail
          refine (CI.out _ HSX.out).mono ?_
          rintro e w3 ⟨vv, rfl, ⟨g, gc, rfl, hg, hrg, hne, hl4, hbl, hfl⟩, hS3⟩
          have SXr := HSXr.out.trans hS3
          have S3 := Lib.hid (HSX.out.trans hS3)
          have O3 := Lib.hid (own_off HO0.out SXr.off hlt0)
          have F3 := Lib.hid (show Blk w3 W.heap.size zero7 58 from ⟨(SXr.off.block _ HF.out.lt (by omega) (by omega)).trans HF.out.row⟩)
          have RN := Lib.hid (rng_news hrg)
          have GB := Lib.hid (And.intro hbl hfl)
          have hz3 := S3.out.off.size
          have hln : l.length ≠ 0 := fun e => hne (List.length_eq_zero_iff.1 e)
          clear hS3 SXr hrg hbl hfl HO0 HF CI HSX HSXr hne
          go_wp2_with (at_builtin; refine wpList_append_own_at _ rfl _ _ 55 rfl W0.heap.size 143 i0 _ 2 16 Tryd.underlying55 HI.out.1 HI.out.2.1 HI.out.2.2.1 HI.out.2.2.2 rfl (by decide) _ acc.length (flatR acc) rfl O3.out ⟨g, 0, none⟩ l.length gc (flatR l) rfl (flatR_len l) RN.out (flat_one l) (by unfold maxLen; omega) (by omega) (by omega) ?_)
          rintro v' w4 ho hgr _ _
          have hvb : ∀ q, v.ownBlock = some q → W0.heap.size ≤ q := fun q hq => (O3.out.lt q hq).1
          have P4 : Prs w4 pb s b k n := Blk.grown S3.out.prs hgr (fun e => by have := hvb pb e.symm; omega)
          have S4 := Lib.hid (show Stp pb s b k n W0 w4 from ⟨P4, ⟨hgr.os.trans S3.out.off.os, hgr.tape.trans S3.out.off.tape, hgr.output.trans S3.out.off.output, Nat.le_trans S3.out.off.size hgr.size, fun c hc h1 h2 => (hgr.block c (Nat.lt_of_lt_of_le hc S3.out.off.size) (fun e => by have := hvb c e.symm; omega)).trans (S3.out.off.block c hc h1 h2)⟩⟩)
          have F4 := Lib.hid (Blk.grown F3.out hgr (fun e => by have := hvb _ e.symm; omega))
          have q4 := P4.four.2.2.1
          have HO4 := Lib.hid (show w4.ownsRow W0.heap.size 143 2 v' (acc ++ l).length (flatR (acc ++ l)) by rw [flatR_app, List.length_append]; exact ho)
          clear ho hgr P4 hvb RN F3 O3 S3
          go_wp2_with fail
          refine ⟨⟨v', false, k, f1, acc ++ l, rfl, rfl, S4.out, F4.out, hjk.2, HO4.out, bnd_app HB.out GB.out.1, fit_app HFi.out GB.out.2, by rw [List.length_append]; omega, fun _ e => hln (by rw [(List.append_eq_nil_iff.1 e).2]; rfl), HR2.out, by omega⟩, ?_⟩
          rw [q4, q2r]
          simp [RowKit.intOf]
          omega
      | true =>
        simp only [Bool.not_false, Bool.true_and, if_true] at hR2
        have hj1 := st1_lt hp
        have hne := hne0 rfl
        have HR2 := Lib.hid (show R = .ok acc (j + 1) from hR2.symm)
        clear hp hR2 hne0
        obtain ⟨q, cp, cur, rfl, hq, hrow, hn1, hn2, hn3, hn4⟩ : ∃ q cp cur, v = .slice (some ⟨q, 0, none⟩) acc.length cp ∧ W0.heap.size ≤ q ∧ wr.heap[q]? = some (.cells cur 143 (0, 0)) ∧ acc.length ≤ cp ∧ cp ≤ maxLen ∧ cur.size = cp * 2 ∧ cur.toList.take (acc.length * 2) = flatR acc := by
          rcases hO.2 with ⟨_, e⟩ | ⟨q, cp, cur, e, x⟩
          · exact absurd (List.length_eq_zero_iff.1 e) hne
          · exact ⟨q, cp, cur, e, x⟩
        have hrr : RngR wr q acc := RngR.of_row hrow hn4
        have hqs : q < wr.heap.size := (Array.getElem?_eq_some_iff.1 hrow).1
        have CJ := Lib.hid (fun (w2 : World) (hSt : Stp pb s b (j + 1) n wr w2) => rx_joined (W := w2) (hrr.off hSt.off (by omega)) (Nat.lt_of_lt_of_le hqs hSt.off.size) (by omega) hB hF cp)
        have HF := Lib.hid hF0
        clear hO hrow hn1 hn2 hn3 hn4 hrr hB hF hF0 hS q2r hne
        go_wp2_with fail
        refine (CT.out).mono ?_
        rintro e w2 ⟨rfl, hSt⟩
        have HSt := Lib.hid (show Stp pb s b (j + 1) n wr w2 from hSt)
        clear hSt CT
        go_wp2_with fail
        refine (CJ.out _ HSt.out).mono ?_
        rintro e w3 ⟨v3, rfl, hrg, hof⟩
        obtain ⟨A3, c3, rfl⟩ := rx_store_set hrg
        have hwr := HSr.out.off.size
        have hw2 := HSt.out.off.size
        have F2 : Blk w2 W.heap.size zero7 58 := ⟨(HSt.out.off.block _ HF.out.lt (by omega) (by omega)).trans HF.out.row⟩
        have F3 : Blk w3 W.heap.size zero7 58 := ⟨(hof.block _ F2.lt (by omega) (by omega)).trans F2.row⟩
        have S3 : Stp pb s b (j + 1) n W0 w3 := (HSr.out.trans HSt.out).aside hof hq (by omega)
        obtain ⟨z7, o7⟩ := rx_end7 (.int .i64 4) (.int .i64 0) (.bool p0) (.slice A3 (joinR acc).length c3) (.int .i64 0) (.int .i64 0) (.slice none 0 0) F3
        obtain ⟨⟨y0, y1, y2, y3, y4, y5, y6⟩, _⟩ := z7.seven
        have hkk : ∀ x, x < w3.heap.size → w2.heap.size ≤ x → W.heap.size ≤ x ∧ (put7 w3 W.heap.size (.int .i64 4) (.int .i64 0) (.bool p0) (.slice A3 (joinR acc).length c3) (.int .i64 0) (.int .i64 0) (.slice none 0 0)).heap[x]? = w3.heap[x]? := fun x hx hpx => by
          have hne1 : x ≠ W.heap.size := by omega
          exact ⟨by omega, o7.block x hx hne1 hne1⟩
        have FIN := Lib.hid (show RxOut (gTr W.heap.size) pb s b n W (.ok (trS p0 (joinR acc)) (j + 1)) (.returned (.agg #[.int .i64 4, .int .i64 0, .bool p0, .slice A3 (joinR acc).length c3, .int .i64 0, .int .i64 0, .slice none 0 0])) (put7 w3 W.heap.size (.int .i64 4) (.int .i64 0) (.bool p0) (.slice A3 (joinR acc).length c3) (.int .i64 0) (.int .i64 0) (.slice none 0 0)) from
          ⟨_, rfl, ⟨_, rfl, TrV.mk (by simp) (hrg.kept hkk) (Tr.Ins.nil _ _ none 0)⟩, (HS0.out.trans S3).aside o7 (Nat.le_refl _) (by omega)⟩)
        obtain ⟨⟨k0, k1, k2, k3, k4, k5, k6⟩, f0, f1', f2, f3, f4, f5, f6⟩ := F3.seven
        clear hrg hof F2 F3 S3 z7 o7 HSt HSr CJ
        unfold put7 at y0 y1 y2 y3 y4 y5 y6
        go_wp2_with fail
        rw [HR2.out]
        exact bodyPost_ret (v := .agg #[.int .i64 4, .int .i64 0, .bool p0, .slice A3 (joinR acc).length c3, .int .i64 0, .int .i64 0, .slice none 0 0]) (by simp [results, Tryd.results141, go_sem, y0, y1, y2, y3, y4, y5, y6]) rfl FIN.out
end Go.Proofs.YtdfacbcenogplaaDoor

namespace Go.Proofs.YtdfacbcenogplaaDoor
open Go.RowKit Go.Lib

set_option maxRecDepth 100000 in
set_option maxHeartbeats 1000000 in
/-- wordly: letters, digits, '_'. -/
theorem rx_wordly (W : World) : Calls Tryd.prog 153 #[] W fun e w' => ∃ v, e = .returned v ∧ RgIn w' (fun c => W.heap.size ≤ c) wordR v ∧ Below W.heap.size W w' := by
  obtain ⟨i0, hi, hz0, hz1, hz2⟩ := info_parts info_rng
  have CC := Lib.hid (show Calls Tryd.prog 154 #[.string ⟨#[97, 108, 110, 117, 109]⟩] W (fun e w' => e = .returned (.slice (some ⟨W.heap.size, 0, none⟩) 3 3) ∧ w' = W.alloc (codeObj alnR)) from rx_codes_alnum W)
  have O1 : (W.alloc (codeObj alnR)).ownsRow W.heap.size 143 2 (.slice (some ⟨W.heap.size, 0, none⟩) 3 3) 3 (flatR alnR) := World.ownsRow_lit W (flatR alnR).toArray 3 (Nat.le_refl _) (by decide) rfl
  have B1 := (Below.refl W.heap.size W).alloc (Nat.le_refl _) (codeObj alnR)
  have z1 : (W.alloc (codeObj alnR)).heap.size = W.heap.size + 1 := by simp
  obtain ⟨W1, hW1⟩ : ∃ W1, W.alloc (codeObj alnR) = W1 := ⟨_, rfl⟩
  rw [hW1] at CC O1 B1 z1
  have RN := Lib.hid (show ∀ j u, [Value.int .i64 95, .int .i64 95][j]? = some u → (W1.alloc (.cells #[.int .i64 95, .int .i64 95] 143)).cell? ((⟨W1.heap.size, 0, none⟩ : Addr).add j) = some u from rx_row_new W1 #[.int .i64 95, .int .i64 95] 143)
  have O2 := Lib.hid (O1.alloc (.cells #[.int .i64 95, .int .i64 95] 143))
  have B2 := Lib.hid (B1.alloc B1.size (.cells #[.int .i64 95, .int .i64 95] 143))
  have zA : W.heap.size < W1.heap.size := by omega
  clear hW1 O1 B1 z1
  go_enter Tryd.func153, Tryd.ntmps153
  go_wp2_with fail
  refine CC.out.mono ?_
  rintro e w' ⟨rfl, hw'⟩
  obtain rfl : W1 = w' := hw'.symm
  go_wp2_with (at_builtin; refine wpList_append_own_at _ rfl _ _ 55 rfl W.heap.size 143 i0 _ 2 16 Tryd.underlying55 hi hz0 hz1 hz2 rfl (by decide) _ 3 (flatR alnR) rfl O2.out ⟨W1.heap.size, 0, none⟩ 1 1 [.int .i64 95, .int .i64 95] rfl rfl RN.out (by simp [Value.oneCell']) (by unfold maxLen; omega) (by omega) (by simp; omega) ?_)
  rintro v' w2 ho hgr _ _
  obtain ⟨q, cp, cur, rfl, hq, hrow, _, _, _, hn4⟩ : ∃ q cp cur, v' = .slice (some ⟨q, 0, none⟩) 4 cp ∧ W.heap.size ≤ q ∧ w2.heap[q]? = some (.cells cur 143 (0, 0)) ∧ 4 ≤ cp ∧ cp ≤ maxLen ∧ cur.size = cp * 2 ∧ cur.toList.take (4 * 2) = flatR (alnR ++ [(95, 95)]) := by
    rcases ho.2 with ⟨_, e⟩ | ⟨q, cp, cur, e, x⟩
    · cases e
    · exact ⟨q, cp, cur, e, x⟩
  have hrr : RngR w2 q (alnR ++ [(95, 95)]) := RngR.of_row hrow hn4
  have B3 : Below W.heap.size W w2 := Below.grown B2.out hgr (by simp; omega) (fun z hz => by cases hz; exact Nat.le_refl _)
  have hfit : Bnd (alnR ++ [(95, 95)]) ∧ Fit (alnR ++ [(95, 95)]) := by
    constructor
    · intro r hr; simp [alnR] at hr; rcases hr with rfl | rfl | rfl | rfl <;> simp
    · intro r hr; simp [alnR] at hr; rcases hr with rfl | rfl | rfl | rfl <;> simp
  have hjn : joinR (alnR ++ [(95, 95)]) = wordR := by decide
  have CJ := Lib.hid (rx_joined (cap := cp) hrr (Array.getElem?_eq_some_iff.1 hrow).1 (by decide) hfit.1 hfit.2)
  have HB := Lib.hid B3
  have hs2 := B3.size
  clear ho hgr hrow hn4 hrr B3 hfit RN O2 B2 CC
  go_wp2_with fail
  refine (show Calls _ _ _ _ _ from CJ.out).mono ?_
  rintro e w3 ⟨v3, rfl, hrg, hof⟩
  rw [hjn] at hrg
  have HRG := Lib.hid (hrg.kept (P' := fun c => W.heap.size ≤ c) (w' := w3) (fun g _ hp => ⟨Nat.le_trans hs2 hp, rfl⟩))
  have HB3 := Lib.hid (HB.out.trans (hof.below hq hq hs2))
  clear hrg hof hjn CJ
  go_wp2_with fail
  go_ret
  exact ⟨_, rfl, HRG.out, HB3.out⟩
/-- A leaf of the tree, stored into the result. -/
theorem leaf_put {W w : World} {pb : Nat} {s : ByteArray} {b : Bool} {j n : Nat} {kind code : Int} (HS : Stp pb s b j n W w) (F : Blk w W.heap.size zero7 58) :
    RxOut (gTr W.heap.size) pb s b n W (.ok (.mk kind code false [] 0 0 []) j) (.returned (.agg #[.int .i64 kind, .int .i64 code, .bool false, .slice none 0 0, .int .i64 0, .int .i64 0, .slice none 0 0])) (put7 w W.heap.size (.int .i64 kind) (.int .i64 code) (.bool false) (.slice none 0 0) (.int .i64 0) (.int .i64 0) (.slice none 0 0)) := by
  obtain ⟨z7, o7⟩ := rx_end7 (.int .i64 kind) (.int .i64 code) (.bool false) (.slice none 0 0) (.int .i64 0) (.int .i64 0) (.slice none 0 0) F
  have hne : pb ≠ W.heap.size := fun e => by
    have h1 := HS.prs.row
    rw [e, F.row] at h1
    cases h1
  exact ⟨_, rfl, ⟨_, rfl, TrV.leaf _ _ kind code false 0 0⟩, HS.aside o7 (Nat.le_refl _) hne⟩
/-- A set, stored into the result. -/
theorem set_put {W w : World} {pb : Nat} {s : ByteArray} {b : Bool} {j n m : Nat} {neg : Bool} {set : List (Int × Int)} {A : Option Addr} {c : Nat} (HS : Stp pb s b j n W w) (F : Blk w W.heap.size zero7 58) (hr : RgIn w (fun c => m ≤ c) set (.slice A set.length c)) (hm : W.heap.size < m) :
    RxOut (gTr W.heap.size) pb s b n W (.ok (trS neg set) j) (.returned (.agg #[.int .i64 4, .int .i64 0, .bool neg, .slice A set.length c, .int .i64 0, .int .i64 0, .slice none 0 0])) (put7 w W.heap.size (.int .i64 4) (.int .i64 0) (.bool neg) (.slice A set.length c) (.int .i64 0) (.int .i64 0) (.slice none 0 0)) := by
  obtain ⟨z7, o7⟩ := rx_end7 (.int .i64 4) (.int .i64 0) (.bool neg) (.slice A set.length c) (.int .i64 0) (.int .i64 0) (.slice none 0 0) F
  have hne : pb ≠ W.heap.size := fun e => by
    have h1 := HS.prs.row
    rw [e, F.row] at h1
    cases h1
  have hkk : ∀ x, x < w.heap.size → m ≤ x → W.heap.size ≤ x ∧ (put7 w W.heap.size (.int .i64 4) (.int .i64 0) (.bool neg) (.slice A set.length c) (.int .i64 0) (.int .i64 0) (.slice none 0 0)).heap[x]? = w.heap[x]? := fun x hx hp => by
    have h1 : x ≠ W.heap.size := by omega
    exact ⟨by omega, o7.block x hx h1 h1⟩
  exact ⟨_, rfl, ⟨_, rfl, TrV.mk (by simp) (hr.kept hkk) (Tr.Ins.nil _ _ none 0)⟩, HS.aside o7 (Nat.le_refl _) hne⟩
def mrkL (a k : Nat) : Option Nat → Rs Tr
  | none => .bad a 90
  | some x => .ok (trC x) k
def mrkV (c a k : Nat) : Rs Tr :=
  if c = 121 then .ok (trK 10) k
  else if c = 66 then .ok (trK 11) k
  else if c = 60 then .ok (trK 12) k
  else if c = 62 then .ok (trK 13) k
  else if c = 96 then .ok (trK 8) k
  else if c = 39 then .ok (trK 9) k
  else if c = 119 then .ok (trS false wordR) k
  else if c = 87 then .ok (trS true wordR) k
  else if c = 115 then .ok (trS false spaceR) k
  else if c = 83 then .ok (trS true spaceR) k
  else mrkL a k (meantF c)
theorem mrk_is (s : ByteArray) (b : Bool) (a i : Nat) : mrkF s b a i = if i = s.size then .bad a 90 else mrkV (nextZ s i b).1 a (i + (nextZ s i b).2) := by
  unfold mrkF mrkV
  cases meantF (nextZ s i b).1 <;> rfl
set_option maxRecDepth 100000 in
set_option maxHeartbeats 2000000 in
theorem rx_marked {W : World} {pb a : Nat} {s : ByteArray} {b : Bool} {i n : Nat} (h : Prs W pb s b i n) (hi : i ≤ s.size) (hs : s.size ≤ 1024) (hE : Env W pb) :
    Calls Tryd.prog 142 #[pbP pb, .int .i64 (a : Int)] W (RxOut (gTr W.heap.size) pb s b n W (mrkF s b a i)) := by
  have CW := Lib.hid (fun W => rx_wrong pb a W)
  have hlt := Blk.lt h
  have F0 := Blk.new W zero7 58
  have S0 := (Stp.refl h).alloc (.cells zero7 58)
  have hE0 := hE.step S0 hlt
  have hsz0 : (W.alloc (.cells zero7 58)).heap.size = W.heap.size + 1 := by simp
  obtain ⟨W0, hW0⟩ : ∃ W0, W.alloc (.cells zero7 58) = W0 := ⟨_, rfl⟩
  rw [hW0] at F0 S0 hE0 hsz0
  have hlt0 : pb < W0.heap.size := by omega
  have hsA : W.heap.size < W0.heap.size := by omega
  have hneB : pb ≠ W.heap.size := by omega
  clear hsz0
  have HS0 := Lib.hid S0
  have HKF := Lib.hid (fun (w : World) (j : Nat) (hS : Stp pb s b j n W0 w) => show Blk w W.heap.size zero7 58 from ⟨(hS.off.block _ F0.lt (Ne.symm hneB) (Ne.symm hneB)).trans F0.row⟩)
  rw [mrk_is]
  by_cases h0 : i = s.size
  · rw [if_pos h0]
    have C0 := Lib.hid (rx_ended S0.prs true (by rw [size_beq, decide_eq_true_eq]; exact h0))
    clear h hE hE0 S0 F0 h0
    go_enter Tryd.func142, Tryd.ntmps142
    go_wp2_with fail
    refine C0.out.mono ?_
    rintro e w1 ⟨rfl, hS⟩
    have HS := Lib.hid (HS0.out.trans hS)
    clear hS C0 hW0
    go_wp2_with fail
    refine (CW.out _).mono ?_
    rintro e w2 ⟨rfl, rfl⟩
    go_wp2_with fail
    exact ⟨rfl, rfl, HS.out.off⟩
  rw [if_neg h0]
  have C0 := Lib.hid (rx_ended S0.prs false (by rw [size_beq, decide_eq_false_iff_not]; exact h0))
  have C1 := Lib.hid (fun W1 (hS : Stp pb s b i n W0 W1) => rx_next hS.prs (by omega) hs (hE0.step hS hlt0))
  obtain ⟨C, hC⟩ : ∃ C, (nextZ s i b).1 = C := ⟨_, rfl⟩
  obtain ⟨k, hk⟩ : ∃ k, i + (nextZ s i b).2 = k := ⟨_, rfl⟩
  rw [hC, hk]
  rw [hC, hk] at C1
  clear h hE hE0 S0 F0 h0 hC hk
  by_cases c121 : C = 121
  · subst c121
    rw [show mrkV 121 a k = .ok (trK 10) k from rfl]
    go_enter Tryd.func142, Tryd.ntmps142
    go_wp2_with fail
    clear hW0
    refine C0.out.mono ?_
    rintro e w1 ⟨rfl, hS⟩
    have HS := Lib.hid hS
    clear hS C0
    go_wp2_with fail
    refine (C1.out _ HS.out).mono ?_
    rintro e w2 ⟨rfl, hS⟩
    have S2 := HS.out.trans hS
    have HS2 := Lib.hid S2
    have F2 := HKF.out _ _ S2
    clear hS S2 C1 HS
    have FIN := Lib.hid (leaf_put (kind := 10) (code := 0) (HS0.out.trans HS2.out) F2)
    obtain ⟨z7, _⟩ := rx_end7 (.int .i64 10) (.int .i64 0) (.bool false) (.slice none 0 0) (.int .i64 0) (.int .i64 0) (.slice none 0 0) F2
    obtain ⟨⟨y0, y1, y2, y3, y4, y5, y6⟩, _⟩ := z7.seven
    obtain ⟨⟨k0, k1, k2, k3, k4, k5, k6⟩, f0, f1, f2, f3, f4, f5, f6⟩ := F2.seven
    unfold put7 at y0 y1 y2 y3 y4 y5 y6
    clear F2 z7
    go_wp2_with fail
    exact bodyPost_ret (v := .agg #[.int .i64 10, .int .i64 0, .bool false, .slice none 0 0, .int .i64 0, .int .i64 0, .slice none 0 0]) (by simp [results, Tryd.results142, go_sem, y0, y1, y2, y3, y4, y5, y6]) rfl FIN.out
  by_cases c66 : C = 66
  · subst c66
    rw [show mrkV 66 a k = .ok (trK 11) k from rfl]
    go_enter Tryd.func142, Tryd.ntmps142
    go_wp2_with fail
    clear hW0
    refine C0.out.mono ?_
    rintro e w1 ⟨rfl, hS⟩
    have HS := Lib.hid hS
    clear hS C0
    go_wp2_with fail
    refine (C1.out _ HS.out).mono ?_
    rintro e w2 ⟨rfl, hS⟩
    have S2 := HS.out.trans hS
    have HS2 := Lib.hid S2
    have F2 := HKF.out _ _ S2
    clear hS S2 C1 HS
    have FIN := Lib.hid (leaf_put (kind := 11) (code := 0) (HS0.out.trans HS2.out) F2)
    obtain ⟨z7, _⟩ := rx_end7 (.int .i64 11) (.int .i64 0) (.bool false) (.slice none 0 0) (.int .i64 0) (.int .i64 0) (.slice none 0 0) F2
    obtain ⟨⟨y0, y1, y2, y3, y4, y5, y6⟩, _⟩ := z7.seven
    obtain ⟨⟨k0, k1, k2, k3, k4, k5, k6⟩, f0, f1, f2, f3, f4, f5, f6⟩ := F2.seven
    unfold put7 at y0 y1 y2 y3 y4 y5 y6
    clear F2 z7
    go_wp2_with fail
    exact bodyPost_ret (v := .agg #[.int .i64 11, .int .i64 0, .bool false, .slice none 0 0, .int .i64 0, .int .i64 0, .slice none 0 0]) (by simp [results, Tryd.results142, go_sem, y0, y1, y2, y3, y4, y5, y6]) rfl FIN.out
  by_cases c60 : C = 60
  · subst c60
    rw [show mrkV 60 a k = .ok (trK 12) k from rfl]
    go_enter Tryd.func142, Tryd.ntmps142
    go_wp2_with fail
    clear hW0
    refine C0.out.mono ?_
    rintro e w1 ⟨rfl, hS⟩
    have HS := Lib.hid hS
    clear hS C0
    go_wp2_with fail
    refine (C1.out _ HS.out).mono ?_
    rintro e w2 ⟨rfl, hS⟩
    have S2 := HS.out.trans hS
    have HS2 := Lib.hid S2
    have F2 := HKF.out _ _ S2
    clear hS S2 C1 HS
    have FIN := Lib.hid (leaf_put (kind := 12) (code := 0) (HS0.out.trans HS2.out) F2)
    obtain ⟨z7, _⟩ := rx_end7 (.int .i64 12) (.int .i64 0) (.bool false) (.slice none 0 0) (.int .i64 0) (.int .i64 0) (.slice none 0 0) F2
    obtain ⟨⟨y0, y1, y2, y3, y4, y5, y6⟩, _⟩ := z7.seven
    obtain ⟨⟨k0, k1, k2, k3, k4, k5, k6⟩, f0, f1, f2, f3, f4, f5, f6⟩ := F2.seven
    unfold put7 at y0 y1 y2 y3 y4 y5 y6
    clear F2 z7
    go_wp2_with fail
    exact bodyPost_ret (v := .agg #[.int .i64 12, .int .i64 0, .bool false, .slice none 0 0, .int .i64 0, .int .i64 0, .slice none 0 0]) (by simp [results, Tryd.results142, go_sem, y0, y1, y2, y3, y4, y5, y6]) rfl FIN.out
  by_cases c62 : C = 62
  · subst c62
    rw [show mrkV 62 a k = .ok (trK 13) k from rfl]
    go_enter Tryd.func142, Tryd.ntmps142
    go_wp2_with fail
    clear hW0
    refine C0.out.mono ?_
    rintro e w1 ⟨rfl, hS⟩
    have HS := Lib.hid hS
    clear hS C0
    go_wp2_with fail
    refine (C1.out _ HS.out).mono ?_
    rintro e w2 ⟨rfl, hS⟩
    have S2 := HS.out.trans hS
    have HS2 := Lib.hid S2
    have F2 := HKF.out _ _ S2
    clear hS S2 C1 HS
    have FIN := Lib.hid (leaf_put (kind := 13) (code := 0) (HS0.out.trans HS2.out) F2)
    obtain ⟨z7, _⟩ := rx_end7 (.int .i64 13) (.int .i64 0) (.bool false) (.slice none 0 0) (.int .i64 0) (.int .i64 0) (.slice none 0 0) F2
    obtain ⟨⟨y0, y1, y2, y3, y4, y5, y6⟩, _⟩ := z7.seven
    obtain ⟨⟨k0, k1, k2, k3, k4, k5, k6⟩, f0, f1, f2, f3, f4, f5, f6⟩ := F2.seven
    unfold put7 at y0 y1 y2 y3 y4 y5 y6
    clear F2 z7
    go_wp2_with fail
    exact bodyPost_ret (v := .agg #[.int .i64 13, .int .i64 0, .bool false, .slice none 0 0, .int .i64 0, .int .i64 0, .slice none 0 0]) (by simp [results, Tryd.results142, go_sem, y0, y1, y2, y3, y4, y5, y6]) rfl FIN.out
  by_cases c96 : C = 96
  · subst c96
    rw [show mrkV 96 a k = .ok (trK 8) k from rfl]
    go_enter Tryd.func142, Tryd.ntmps142
    go_wp2_with fail
    clear hW0
    refine C0.out.mono ?_
    rintro e w1 ⟨rfl, hS⟩
    have HS := Lib.hid hS
    clear hS C0
    go_wp2_with fail
    refine (C1.out _ HS.out).mono ?_
    rintro e w2 ⟨rfl, hS⟩
    have S2 := HS.out.trans hS
    have HS2 := Lib.hid S2
    have F2 := HKF.out _ _ S2
    clear hS S2 C1 HS
    have FIN := Lib.hid (leaf_put (kind := 8) (code := 0) (HS0.out.trans HS2.out) F2)
    obtain ⟨z7, _⟩ := rx_end7 (.int .i64 8) (.int .i64 0) (.bool false) (.slice none 0 0) (.int .i64 0) (.int .i64 0) (.slice none 0 0) F2
    obtain ⟨⟨y0, y1, y2, y3, y4, y5, y6⟩, _⟩ := z7.seven
    obtain ⟨⟨k0, k1, k2, k3, k4, k5, k6⟩, f0, f1, f2, f3, f4, f5, f6⟩ := F2.seven
    unfold put7 at y0 y1 y2 y3 y4 y5 y6
    clear F2 z7
    go_wp2_with fail
    exact bodyPost_ret (v := .agg #[.int .i64 8, .int .i64 0, .bool false, .slice none 0 0, .int .i64 0, .int .i64 0, .slice none 0 0]) (by simp [results, Tryd.results142, go_sem, y0, y1, y2, y3, y4, y5, y6]) rfl FIN.out
  by_cases c39 : C = 39
  · subst c39
    rw [show mrkV 39 a k = .ok (trK 9) k from rfl]
    go_enter Tryd.func142, Tryd.ntmps142
    go_wp2_with fail
    clear hW0
    refine C0.out.mono ?_
    rintro e w1 ⟨rfl, hS⟩
    have HS := Lib.hid hS
    clear hS C0
    go_wp2_with fail
    refine (C1.out _ HS.out).mono ?_
    rintro e w2 ⟨rfl, hS⟩
    have S2 := HS.out.trans hS
    have HS2 := Lib.hid S2
    have F2 := HKF.out _ _ S2
    clear hS S2 C1 HS
    have FIN := Lib.hid (leaf_put (kind := 9) (code := 0) (HS0.out.trans HS2.out) F2)
    obtain ⟨z7, _⟩ := rx_end7 (.int .i64 9) (.int .i64 0) (.bool false) (.slice none 0 0) (.int .i64 0) (.int .i64 0) (.slice none 0 0) F2
    obtain ⟨⟨y0, y1, y2, y3, y4, y5, y6⟩, _⟩ := z7.seven
    obtain ⟨⟨k0, k1, k2, k3, k4, k5, k6⟩, f0, f1, f2, f3, f4, f5, f6⟩ := F2.seven
    unfold put7 at y0 y1 y2 y3 y4 y5 y6
    clear F2 z7
    go_wp2_with fail
    exact bodyPost_ret (v := .agg #[.int .i64 9, .int .i64 0, .bool false, .slice none 0 0, .int .i64 0, .int .i64 0, .slice none 0 0]) (by simp [results, Tryd.results142, go_sem, y0, y1, y2, y3, y4, y5, y6]) rfl FIN.out
  by_cases c119 : C = 119
  · subst c119
    rw [show mrkV 119 a k = .ok (trS false wordR) k from rfl]
    have CWd := Lib.hid (fun W => rx_wordly W)
    go_enter Tryd.func142, Tryd.ntmps142
    go_wp2_with fail
    clear hW0
    refine C0.out.mono ?_
    rintro e w1 ⟨rfl, hS⟩
    have HS := Lib.hid hS
    clear hS C0
    go_wp2_with fail
    refine (C1.out _ HS.out).mono ?_
    rintro e w2 ⟨rfl, hS⟩
    have S2 := HS.out.trans hS
    have HS2 := Lib.hid S2
    have F2 := HKF.out _ _ S2
    clear hS S2 C1 HS
    go_wp2_with fail
    refine (CWd.out _).mono ?_
    rintro e w3 ⟨v3, rfl, hrg, hb⟩
    obtain ⟨A3, q3, rfl⟩ := rx_store_set hrg
    have hs2 := HS2.out.off.size
    have F3 : Blk w3 W.heap.size zero7 58 := F2.below hb F2.lt
    have S3 := HS2.out.below hb
    have FIN := Lib.hid (set_put (neg := false) (HS0.out.trans S3) F3 hrg (by omega))
    clear hb S3 HS2 F2 CWd
    have F2 := F3
    obtain ⟨z7, _⟩ := rx_end7 (.int .i64 4) (.int .i64 0) (.bool false) (.slice A3 wordR.length q3) (.int .i64 0) (.int .i64 0) (.slice none 0 0) F2
    clear hrg
    obtain ⟨⟨y0, y1, y2, y3, y4, y5, y6⟩, _⟩ := z7.seven
    obtain ⟨⟨k0, k1, k2, k3, k4, k5, k6⟩, f0, f1, f2, f3, f4, f5, f6⟩ := F2.seven
    unfold put7 at y0 y1 y2 y3 y4 y5 y6
    clear F2 z7
    go_wp2_with fail
    exact bodyPost_ret (v := .agg #[.int .i64 4, .int .i64 0, .bool false, .slice A3 wordR.length q3, .int .i64 0, .int .i64 0, .slice none 0 0]) (by simp [results, Tryd.results142, go_sem, y0, y1, y2, y3, y4, y5, y6]) rfl FIN.out
  by_cases c87 : C = 87
  · subst c87
    rw [show mrkV 87 a k = .ok (trS true wordR) k from rfl]
    have CWd := Lib.hid (fun W => rx_wordly W)
    go_enter Tryd.func142, Tryd.ntmps142
    go_wp2_with fail
    clear hW0
    refine C0.out.mono ?_
    rintro e w1 ⟨rfl, hS⟩
    have HS := Lib.hid hS
    clear hS C0
    go_wp2_with fail
    refine (C1.out _ HS.out).mono ?_
    rintro e w2 ⟨rfl, hS⟩
    have S2 := HS.out.trans hS
    have HS2 := Lib.hid S2
    have F2 := HKF.out _ _ S2
    clear hS S2 C1 HS
    go_wp2_with fail
    refine (CWd.out _).mono ?_
    rintro e w3 ⟨v3, rfl, hrg, hb⟩
    obtain ⟨A3, q3, rfl⟩ := rx_store_set hrg
    have hs2 := HS2.out.off.size
    have F3 : Blk w3 W.heap.size zero7 58 := F2.below hb F2.lt
    have S3 := HS2.out.below hb
    have FIN := Lib.hid (set_put (neg := true) (HS0.out.trans S3) F3 hrg (by omega))
    clear hb S3 HS2 F2 CWd
    have F2 := F3
    obtain ⟨z7, _⟩ := rx_end7 (.int .i64 4) (.int .i64 0) (.bool true) (.slice A3 wordR.length q3) (.int .i64 0) (.int .i64 0) (.slice none 0 0) F2
    clear hrg
    obtain ⟨⟨y0, y1, y2, y3, y4, y5, y6⟩, _⟩ := z7.seven
    obtain ⟨⟨k0, k1, k2, k3, k4, k5, k6⟩, f0, f1, f2, f3, f4, f5, f6⟩ := F2.seven
    unfold put7 at y0 y1 y2 y3 y4 y5 y6
    clear F2 z7
    go_wp2_with fail
    exact bodyPost_ret (v := .agg #[.int .i64 4, .int .i64 0, .bool true, .slice A3 wordR.length q3, .int .i64 0, .int .i64 0, .slice none 0 0]) (by simp [results, Tryd.results142, go_sem, y0, y1, y2, y3, y4, y5, y6]) rfl FIN.out
  by_cases c115 : C = 115
  · subst c115
    rw [show mrkV 115 a k = .ok (trS false spaceR) k from rfl]
    have CWd := Lib.hid (fun W => rx_codes (s := ⟨#[115, 112, 97, 99, 101]⟩) (l := spaceR) rfl W)
    go_enter Tryd.func142, Tryd.ntmps142
    go_wp2_with fail
    clear hW0
    refine C0.out.mono ?_
    rintro e w1 ⟨rfl, hS⟩
    have HS := Lib.hid hS
    clear hS C0
    go_wp2_with fail
    refine (C1.out _ HS.out).mono ?_
    rintro e w2 ⟨rfl, hS⟩
    have S2 := HS.out.trans hS
    have HS2 := Lib.hid S2
    have F2 := HKF.out _ _ S2
    clear hS S2 C1 HS
    go_wp2_with fail
    refine (CWd.out _).mono ?_
    rintro e w3 ⟨rfl, rfl⟩
    have hs2 := HS2.out.off.size
    have hb := (Below.refl w2.heap.size w2).alloc (Nat.le_refl _) (codeObj spaceR)
    have hrr := codeObj_rng w2 spaceR
    have hrg : RgIn (w2.alloc (codeObj spaceR)) (fun c => w2.heap.size ≤ c) spaceR (.slice (some ⟨w2.heap.size, 0, none⟩) spaceR.length spaceR.length) := ⟨_, _, rfl, by decide, fun j r hj => ⟨_, rfl, Nat.le_refl _, (hrr j r hj).1⟩⟩
    obtain ⟨w3, hw3⟩ : ∃ w3, w2.alloc (codeObj spaceR) = w3 := ⟨_, rfl⟩
    rw [hw3] at hb hrg
    rw [hw3]
    have F3 : Blk w3 W.heap.size zero7 58 := F2.below hb F2.lt
    have S3 := HS2.out.below hb
    have FIN := Lib.hid (set_put (neg := false) (HS0.out.trans S3) F3 hrg (by omega))
    clear hb S3 HS2 F2 CWd hrr hw3
    have F2 := F3
    obtain ⟨z7, _⟩ := rx_end7 (.int .i64 4) (.int .i64 0) (.bool false) (.slice (some ⟨w2.heap.size, 0, none⟩) spaceR.length spaceR.length) (.int .i64 0) (.int .i64 0) (.slice none 0 0) F2
    clear hrg
    obtain ⟨⟨y0, y1, y2, y3, y4, y5, y6⟩, _⟩ := z7.seven
    obtain ⟨⟨k0, k1, k2, k3, k4, k5, k6⟩, f0, f1, f2, f3, f4, f5, f6⟩ := F2.seven
    unfold put7 at y0 y1 y2 y3 y4 y5 y6
    clear F2 z7
    go_wp2_with fail
    exact bodyPost_ret (v := .agg #[.int .i64 4, .int .i64 0, .bool false, .slice (some ⟨w2.heap.size, 0, none⟩) spaceR.length spaceR.length, .int .i64 0, .int .i64 0, .slice none 0 0]) (by simp [results, Tryd.results142, go_sem, y0, y1, y2, y3, y4, y5, y6]) rfl FIN.out
  by_cases c83 : C = 83
  · subst c83
    rw [show mrkV 83 a k = .ok (trS true spaceR) k from rfl]
    have CWd := Lib.hid (fun W => rx_codes (s := ⟨#[115, 112, 97, 99, 101]⟩) (l := spaceR) rfl W)
    go_enter Tryd.func142, Tryd.ntmps142
    go_wp2_with fail
    clear hW0
    refine C0.out.mono ?_
    rintro e w1 ⟨rfl, hS⟩
    have HS := Lib.hid hS
    clear hS C0
    go_wp2_with fail
    refine (C1.out _ HS.out).mono ?_
    rintro e w2 ⟨rfl, hS⟩
    have S2 := HS.out.trans hS
    have HS2 := Lib.hid S2
    have F2 := HKF.out _ _ S2
    clear hS S2 C1 HS
    go_wp2_with fail
    refine (CWd.out _).mono ?_
    rintro e w3 ⟨rfl, rfl⟩
    have hs2 := HS2.out.off.size
    have hb := (Below.refl w2.heap.size w2).alloc (Nat.le_refl _) (codeObj spaceR)
    have hrr := codeObj_rng w2 spaceR
    have hrg : RgIn (w2.alloc (codeObj spaceR)) (fun c => w2.heap.size ≤ c) spaceR (.slice (some ⟨w2.heap.size, 0, none⟩) spaceR.length spaceR.length) := ⟨_, _, rfl, by decide, fun j r hj => ⟨_, rfl, Nat.le_refl _, (hrr j r hj).1⟩⟩
    obtain ⟨w3, hw3⟩ : ∃ w3, w2.alloc (codeObj spaceR) = w3 := ⟨_, rfl⟩
    rw [hw3] at hb hrg
    rw [hw3]
    have F3 : Blk w3 W.heap.size zero7 58 := F2.below hb F2.lt
    have S3 := HS2.out.below hb
    have FIN := Lib.hid (set_put (neg := true) (HS0.out.trans S3) F3 hrg (by omega))
    clear hb S3 HS2 F2 CWd hrr hw3
    have F2 := F3
    obtain ⟨z7, _⟩ := rx_end7 (.int .i64 4) (.int .i64 0) (.bool true) (.slice (some ⟨w2.heap.size, 0, none⟩) spaceR.length spaceR.length) (.int .i64 0) (.int .i64 0) (.slice none 0 0) F2
    clear hrg
    obtain ⟨⟨y0, y1, y2, y3, y4, y5, y6⟩, _⟩ := z7.seven
    obtain ⟨⟨k0, k1, k2, k3, k4, k5, k6⟩, f0, f1, f2, f3, f4, f5, f6⟩ := F2.seven
    unfold put7 at y0 y1 y2 y3 y4 y5 y6
    clear F2 z7
    go_wp2_with fail
    exact bodyPost_ret (v := .agg #[.int .i64 4, .int .i64 0, .bool true, .slice (some ⟨w2.heap.size, 0, none⟩) spaceR.length spaceR.length, .int .i64 0, .int .i64 0, .slice none 0 0]) (by simp [results, Tryd.results142, go_sem, y0, y1, y2, y3, y4, y5, y6]) rfl FIN.out
  have CM := fun W => rx_meant C W
  obtain ⟨M, hM⟩ : ∃ M, meantF C = M := ⟨_, rfl⟩
  rw [meantZ_is hM] at CM
  have hv : mrkV C a k = mrkL a k M := by
    rw [← hM]; unfold mrkV; rw [if_neg c121, if_neg c66, if_neg c60, if_neg c62, if_neg c96, if_neg c39, if_neg c119, if_neg c87, if_neg c115, if_neg c83]
  rw [hv]
  have b121 : ((C : Int) == 121) = false := by rw [beq_eq_false_iff_ne]; omega
  have b66 : ((C : Int) == 66) = false := by rw [beq_eq_false_iff_ne]; omega
  have b60 : ((C : Int) == 60) = false := by rw [beq_eq_false_iff_ne]; omega
  have b62 : ((C : Int) == 62) = false := by rw [beq_eq_false_iff_ne]; omega
  have b96 : ((C : Int) == 96) = false := by rw [beq_eq_false_iff_ne]; omega
  have b39 : ((C : Int) == 39) = false := by rw [beq_eq_false_iff_ne]; omega
  have b119 : ((C : Int) == 119) = false := by rw [beq_eq_false_iff_ne]; omega
  have b87 : ((C : Int) == 87) = false := by rw [beq_eq_false_iff_ne]; omega
  have b115 : ((C : Int) == 115) = false := by rw [beq_eq_false_iff_ne]; omega
  have b83 : ((C : Int) == 83) = false := by rw [beq_eq_false_iff_ne]; omega
  clear hM hv c121 c66 c60 c62 c96 c39 c119 c87 c115 c83
  cases M with
  | none =>
    simp only [meantP] at CM
    simp only [mrkL]
    have CM := Lib.hid CM
    go_enter Tryd.func142, Tryd.ntmps142
    go_wp2_with fail
    clear hW0
    refine C0.out.mono ?_
    rintro e w1 ⟨rfl, hS⟩
    have HS := Lib.hid hS
    clear hS C0
    go_wp2_with fail
    refine (C1.out _ HS.out).mono ?_
    rintro e w2 ⟨rfl, hS⟩
    have S2 := HS.out.trans hS
    have HS2 := Lib.hid S2
    have F2 := HKF.out _ _ S2
    clear hS S2 C1 HS
    clear F2
    go_wp2_with fail
    refine (CM.out _).mono ?_
    rintro e w3 ⟨rfl, hb⟩
    have HS3 := Lib.hid (HS2.out.below hb)
    clear hb HS2 CM
    go_wp2_with fail
    refine (CW.out _).mono ?_
    rintro e w4 ⟨rfl, rfl⟩
    go_wp2_with fail
    exact ⟨rfl, rfl, HS0.out.off.trans HS3.out.off⟩
  | some x =>
    simp only [meantP] at CM
    simp only [mrkL]
    have CM := Lib.hid CM
    go_enter Tryd.func142, Tryd.ntmps142
    go_wp2_with fail
    clear hW0
    refine C0.out.mono ?_
    rintro e w1 ⟨rfl, hS⟩
    have HS := Lib.hid hS
    clear hS C0
    go_wp2_with fail
    refine (C1.out _ HS.out).mono ?_
    rintro e w2 ⟨rfl, hS⟩
    have S2 := HS.out.trans hS
    have HS2 := Lib.hid S2
    have F2 := HKF.out _ _ S2
    clear hS S2 C1 HS
    go_wp2_with fail
    refine (CM.out _).mono ?_
    rintro e w3 ⟨rfl, hb⟩
    have S3 := HS2.out.below hb
    have F3 : Blk w3 W.heap.size zero7 58 := F2.below hb F2.lt
    clear hb HS2 F2 CM
    have HS2 := Lib.hid S3
    clear S3
    have F2 := F3
    clear F3
    have FIN := Lib.hid (leaf_put (kind := 2) (code := (x : Int)) (HS0.out.trans HS2.out) F2)
    obtain ⟨z7, _⟩ := rx_end7 (.int .i64 2) (.int .i64 (x : Int)) (.bool false) (.slice none 0 0) (.int .i64 0) (.int .i64 0) (.slice none 0 0) F2
    obtain ⟨⟨y0, y1, y2, y3, y4, y5, y6⟩, _⟩ := z7.seven
    obtain ⟨⟨k0, k1, k2, k3, k4, k5, k6⟩, f0, f1, f2, f3, f4, f5, f6⟩ := F2.seven
    unfold put7 at y0 y1 y2 y3 y4 y5 y6
    clear F2 z7
    go_wp2_with fail
    exact bodyPost_ret (v := .agg #[.int .i64 2, .int .i64 (x : Int), .bool false, .slice none 0 0, .int .i64 0, .int .i64 0, .slice none 0 0]) (by simp [results, Tryd.results142, go_sem, y0, y1, y2, y3, y4, y5, y6]) rfl FIN.out
end Go.Proofs.YtdfacbcenogplaaDoor

namespace Go.Proofs.YtdfacbcenogplaaDoor
open Go.RowKit Go.Lib

/-- Seven values, each of its shape. -/
theorem TrV.form {w : World} {P : Nat → Prop} {t : Tr} {vs : Array Value} (h : TrV w P t vs) : ∃ (kind code : Int) (neg : Bool) (A3 : Option Addr) (n3 c3 : Nat) (lo hi : Int) (A2 : Option Addr) (n2 c2 : Nat), vs = #[.int .i64 kind, .int .i64 code, .bool neg, .slice A3 n3 c3, .int .i64 lo, .int .i64 hi, .slice A2 n2 c2] := by
  obtain ⟨kind, code, neg, set, lo, hi, kids⟩ := t
  obtain ⟨sv, A, cap, rfl, _, hR, _⟩ := h.open
  obtain ⟨A3, c3, rfl⟩ := rx_store_set hR
  exact ⟨_, _, _, _, _, _, _, _, _, _, _, rfl⟩
/-- A node, stored into the result. -/
theorem node_put {W w : World} {pb : Nat} {s : ByteArray} {b : Bool} {j n m : Nat} {t : Tr} {v0 v1 v2 v3 v4 v5 v6 : Value} (HS : Stp pb s b j n W w) (F : Blk w W.heap.size zero7 58) (hr : TrV w (fun c => m ≤ c) t #[v0, v1, v2, v3, v4, v5, v6]) (hm : W.heap.size < m) :
    RxOut (gTr W.heap.size) pb s b n W (.ok t j) (.returned (.agg #[v0, v1, v2, v3, v4, v5, v6])) (put7 w W.heap.size v0 v1 v2 v3 v4 v5 v6) := by
  obtain ⟨z7, o7⟩ := rx_end7 v0 v1 v2 v3 v4 v5 v6 F
  have hne : pb ≠ W.heap.size := fun e => by
    have h1 := HS.prs.row
    rw [e, F.row] at h1
    cases h1
  have hkk : ∀ x, x < w.heap.size → m ≤ x → W.heap.size ≤ x ∧ (put7 w W.heap.size v0 v1 v2 v3 v4 v5 v6).heap[x]? = w.heap[x]? := fun x hx hp => by
    have h1 : x ≠ W.heap.size := by omega
    exact ⟨by omega, o7.block x hx h1 h1⟩
  exact ⟨_, rfl, ⟨_, rfl, hr.kept hkk⟩, HS.aside o7 (Nat.le_refl _) hne⟩
/-- What a group's contract says, where d more may be open. -/
def GrpOk (s : ByteArray) (b : Bool) (d : Nat) : Prop := ∀ (W : World) (pb i n a : Nat), Prs W pb s b i n → n + d = 40 → i ≤ s.size → s.size ≤ 1024 → Env W pb →
  Calls Tryd.prog 140 #[pbP pb, .int .i64 (a : Int)] W (RxOut (gTr W.heap.size) pb s b n W (grpF s b d a i))
def nodeV (grp : Nat → Nat → Rs Tr) (s : ByteArray) (b : Bool) (i c k : Nat) : Rs Tr :=
  if c = 40 then grp i k
  else if c = 91 then brkF s b i k
  else if c = 92 then mrkF s b i k
  else if c = 46 then .ok (trK 3) k
  else if c = 94 then .ok (trK 8) k
  else if c = 36 then .ok (trK 9) k
  else .ok (trC c) k
theorem node_is (grp : Nat → Nat → Rs Tr) (s : ByteArray) (b : Bool) (i : Nat) : nodeF grp s b i = nodeV grp s b i (nextZ s i b).1 (i + (nextZ s i b).2) := rfl
set_option maxRecDepth 100000 in
set_option maxHeartbeats 2000000 in
theorem rx_node {W : World} {pb d : Nat} {s : ByteArray} {b : Bool} {i n : Nat} (hg : GrpOk s b d) (hn : n + d = 40) (h : Prs W pb s b i n) (hi : i < s.size) (hs : s.size ≤ 1024) (hE : Env W pb) :
    Calls Tryd.prog 128 #[pbP pb] W (RxOut (gTr W.heap.size) pb s b n W (nodeF (grpF s b d) s b i)) := by
  have hlt := Blk.lt h
  have F0 := Blk.new W zero7 58
  have S0 := (Stp.refl h).alloc (.cells zero7 58)
  have hE0 := hE.step S0 hlt
  have hsz0 : (W.alloc (.cells zero7 58)).heap.size = W.heap.size + 1 := by simp
  obtain ⟨W0, hW0⟩ : ∃ W0, W.alloc (.cells zero7 58) = W0 := ⟨_, rfl⟩
  rw [hW0] at F0 S0 hE0 hsz0
  have hlt0 : pb < W0.heap.size := by omega
  have hsA : W.heap.size < W0.heap.size := by omega
  have hneB : pb ≠ W.heap.size := by omega
  clear hsz0
  have HS0 := Lib.hid S0
  have HKF := Lib.hid (fun (w : World) (j : Nat) (hS : Stp pb s b j n W0 w) => show Blk w W.heap.size zero7 58 from ⟨(hS.off.block _ F0.lt (Ne.symm hneB) (Ne.symm hneB)).trans F0.row⟩)
  have HE := Lib.hid (fun (w : World) (j : Nat) (hS : Stp pb s b j n W0 w) => hE0.step hS hlt0)
  obtain ⟨_, _, p2, _⟩ := S0.prs.four
  rw [node_is]
  have C1 := Lib.hid (rx_next S0.prs hi hs hE0)
  have hx := nx_in s b i hi
  obtain ⟨C, hC⟩ : ∃ C, (nextZ s i b).1 = C := ⟨_, rfl⟩
  obtain ⟨k, hk⟩ : ∃ k, i + (nextZ s i b).2 = k := ⟨_, rfl⟩
  rw [hC, hk]
  rw [hC, hk] at C1
  have hk2 : k ≤ s.size := by omega
  clear h hE hE0 S0 F0 hC hk hx
  by_cases c40 : C = 40
  · subst c40
    rw [show nodeV (grpF s b d) s b i 40 k = grpF s b d i k from rfl]
    have CX := Lib.hid (fun w (hS : Stp pb s b k n W0 w) => hg w pb k n i hS.prs hn hk2 hs (HE.out _ _ hS))
    obtain ⟨R, hR⟩ : ∃ R, grpF s b d i k = R := ⟨_, rfl⟩
    rw [hR] at CX ⊢
    clear hR hg
    cases R with
    | bad ka er =>
      go_enter Tryd.func128, Tryd.ntmps128
      go_wp2_with fail
      clear hW0 p2
      refine C1.out.mono ?_
      rintro e w2 ⟨rfl, hS⟩
      have S2 := hS
      have HS2 := Lib.hid S2
      have F2 := HKF.out _ _ S2
      clear hS S2 C1
      clear F2
      go_wp2_with fail
      refine (CX.out _ HS2.out).mono ?_
      rintro e w3 ⟨rfl, hO⟩
      have HO := Lib.hid hO
      clear hO CX
      go_wp2_with fail
      exact ⟨rfl, rfl, HS0.out.off.trans (HS2.out.off.trans HO.out)⟩
    | ok t ka =>
      go_enter Tryd.func128, Tryd.ntmps128
      go_wp2_with fail
      clear hW0 p2
      refine C1.out.mono ?_
      rintro e w2 ⟨rfl, hS⟩
      have S2 := hS
      have HS2 := Lib.hid S2
      have F2 := HKF.out _ _ S2
      clear hS S2 C1
      go_wp2_with fail
      refine (CX.out _ HS2.out).mono ?_
      rintro e w3 ⟨v, rfl, ⟨vs, rfl, ht⟩, hS3⟩
      obtain ⟨kind, code, neg, A3, n3, c3, lo, hi', A2, n2, c2, rfl⟩ := ht.form
      have S3 := HS2.out.trans hS3
      have F3 := HKF.out _ _ S3
      have hs2 := HS2.out.off.size
      have FIN := Lib.hid (node_put (HS0.out.trans S3) F3 ht (by omega))
      clear F2 ht hS3 S3 HS2 CX
      have F2 := F3
      clear F3
      obtain ⟨z7, _⟩ := rx_end7 (.int .i64 kind) (.int .i64 code) (.bool neg) (.slice A3 n3 c3) (.int .i64 lo) (.int .i64 hi') (.slice A2 n2 c2) F2
      obtain ⟨⟨y0, y1, y2, y3, y4, y5, y6⟩, _⟩ := z7.seven
      obtain ⟨⟨k0, k1, k2, k3, k4, k5, k6⟩, f0, f1, f2, f3, f4, f5, f6⟩ := F2.seven
      unfold put7 at y0 y1 y2 y3 y4 y5 y6
      clear F2 z7
      go_wp2_with fail
      exact bodyPost_ret (v := .agg #[.int .i64 kind, .int .i64 code, .bool neg, .slice A3 n3 c3, .int .i64 lo, .int .i64 hi', .slice A2 n2 c2]) (by simp [results, Tryd.results128, go_sem, y0, y1, y2, y3, y4, y5, y6]) rfl FIN.out
  by_cases c91 : C = 91
  · subst c91
    rw [show nodeV (grpF s b d) s b i 91 k = brkF s b i k from rfl]
    have CX := Lib.hid (fun w (hS : Stp pb s b k n W0 w) => rx_set (a := i) hS.prs hk2 hs (HE.out _ _ hS))
    obtain ⟨R, hR⟩ : ∃ R, brkF s b i k = R := ⟨_, rfl⟩
    rw [hR] at CX ⊢
    clear hR hg
    cases R with
    | bad ka er =>
      go_enter Tryd.func128, Tryd.ntmps128
      go_wp2_with fail
      clear hW0 p2
      refine C1.out.mono ?_
      rintro e w2 ⟨rfl, hS⟩
      have S2 := hS
      have HS2 := Lib.hid S2
      have F2 := HKF.out _ _ S2
      clear hS S2 C1
      clear F2
      go_wp2_with fail
      refine (CX.out _ HS2.out).mono ?_
      rintro e w3 ⟨rfl, hO⟩
      have HO := Lib.hid hO
      clear hO CX
      go_wp2_with fail
      exact ⟨rfl, rfl, HS0.out.off.trans (HS2.out.off.trans HO.out)⟩
    | ok t ka =>
      go_enter Tryd.func128, Tryd.ntmps128
      go_wp2_with fail
      clear hW0 p2
      refine C1.out.mono ?_
      rintro e w2 ⟨rfl, hS⟩
      have S2 := hS
      have HS2 := Lib.hid S2
      have F2 := HKF.out _ _ S2
      clear hS S2 C1
      go_wp2_with fail
      refine (CX.out _ HS2.out).mono ?_
      rintro e w3 ⟨v, rfl, ⟨vs, rfl, ht⟩, hS3⟩
      obtain ⟨kind, code, neg, A3, n3, c3, lo, hi', A2, n2, c2, rfl⟩ := ht.form
      have S3 := HS2.out.trans hS3
      have F3 := HKF.out _ _ S3
      have hs2 := HS2.out.off.size
      have FIN := Lib.hid (node_put (HS0.out.trans S3) F3 ht (by omega))
      clear F2 ht hS3 S3 HS2 CX
      have F2 := F3
      clear F3
      obtain ⟨z7, _⟩ := rx_end7 (.int .i64 kind) (.int .i64 code) (.bool neg) (.slice A3 n3 c3) (.int .i64 lo) (.int .i64 hi') (.slice A2 n2 c2) F2
      obtain ⟨⟨y0, y1, y2, y3, y4, y5, y6⟩, _⟩ := z7.seven
      obtain ⟨⟨k0, k1, k2, k3, k4, k5, k6⟩, f0, f1, f2, f3, f4, f5, f6⟩ := F2.seven
      unfold put7 at y0 y1 y2 y3 y4 y5 y6
      clear F2 z7
      go_wp2_with fail
      exact bodyPost_ret (v := .agg #[.int .i64 kind, .int .i64 code, .bool neg, .slice A3 n3 c3, .int .i64 lo, .int .i64 hi', .slice A2 n2 c2]) (by simp [results, Tryd.results128, go_sem, y0, y1, y2, y3, y4, y5, y6]) rfl FIN.out
  by_cases c92 : C = 92
  · subst c92
    rw [show nodeV (grpF s b d) s b i 92 k = mrkF s b i k from rfl]
    have CX := Lib.hid (fun w (hS : Stp pb s b k n W0 w) => rx_marked (a := i) hS.prs hk2 hs (HE.out _ _ hS))
    obtain ⟨R, hR⟩ : ∃ R, mrkF s b i k = R := ⟨_, rfl⟩
    rw [hR] at CX ⊢
    clear hR hg
    cases R with
    | bad ka er =>
      go_enter Tryd.func128, Tryd.ntmps128
      go_wp2_with fail
      clear hW0 p2
      refine C1.out.mono ?_
      rintro e w2 ⟨rfl, hS⟩
      have S2 := hS
      have HS2 := Lib.hid S2
      have F2 := HKF.out _ _ S2
      clear hS S2 C1
      clear F2
      go_wp2_with fail
      refine (CX.out _ HS2.out).mono ?_
      rintro e w3 ⟨rfl, hO⟩
      have HO := Lib.hid hO
      clear hO CX
      go_wp2_with fail
      exact ⟨rfl, rfl, HS0.out.off.trans (HS2.out.off.trans HO.out)⟩
    | ok t ka =>
      go_enter Tryd.func128, Tryd.ntmps128
      go_wp2_with fail
      clear hW0 p2
      refine C1.out.mono ?_
      rintro e w2 ⟨rfl, hS⟩
      have S2 := hS
      have HS2 := Lib.hid S2
      have F2 := HKF.out _ _ S2
      clear hS S2 C1
      go_wp2_with fail
      refine (CX.out _ HS2.out).mono ?_
      rintro e w3 ⟨v, rfl, ⟨vs, rfl, ht⟩, hS3⟩
      obtain ⟨kind, code, neg, A3, n3, c3, lo, hi', A2, n2, c2, rfl⟩ := ht.form
      have S3 := HS2.out.trans hS3
      have F3 := HKF.out _ _ S3
      have hs2 := HS2.out.off.size
      have FIN := Lib.hid (node_put (HS0.out.trans S3) F3 ht (by omega))
      clear F2 ht hS3 S3 HS2 CX
      have F2 := F3
      clear F3
      obtain ⟨z7, _⟩ := rx_end7 (.int .i64 kind) (.int .i64 code) (.bool neg) (.slice A3 n3 c3) (.int .i64 lo) (.int .i64 hi') (.slice A2 n2 c2) F2
      obtain ⟨⟨y0, y1, y2, y3, y4, y5, y6⟩, _⟩ := z7.seven
      obtain ⟨⟨k0, k1, k2, k3, k4, k5, k6⟩, f0, f1, f2, f3, f4, f5, f6⟩ := F2.seven
      unfold put7 at y0 y1 y2 y3 y4 y5 y6
      clear F2 z7
      go_wp2_with fail
      exact bodyPost_ret (v := .agg #[.int .i64 kind, .int .i64 code, .bool neg, .slice A3 n3 c3, .int .i64 lo, .int .i64 hi', .slice A2 n2 c2]) (by simp [results, Tryd.results128, go_sem, y0, y1, y2, y3, y4, y5, y6]) rfl FIN.out
  by_cases c46 : C = 46
  · subst c46
    rw [show nodeV (grpF s b d) s b i 46 k = .ok (trK 3) k from rfl]
    go_enter Tryd.func128, Tryd.ntmps128
    go_wp2_with fail
    clear hW0 p2
    refine C1.out.mono ?_
    rintro e w2 ⟨rfl, hS⟩
    have S2 := hS
    have HS2 := Lib.hid S2
    have F2 := HKF.out _ _ S2
    clear hS S2 C1
    have FIN := Lib.hid (leaf_put (kind := 3) (code := 0) (HS0.out.trans HS2.out) F2)
    obtain ⟨z7, _⟩ := rx_end7 (.int .i64 3) (.int .i64 0) (.bool false) (.slice none 0 0) (.int .i64 0) (.int .i64 0) (.slice none 0 0) F2
    obtain ⟨⟨y0, y1, y2, y3, y4, y5, y6⟩, _⟩ := z7.seven
    obtain ⟨⟨k0, k1, k2, k3, k4, k5, k6⟩, f0, f1, f2, f3, f4, f5, f6⟩ := F2.seven
    unfold put7 at y0 y1 y2 y3 y4 y5 y6
    clear F2 z7
    go_wp2_with fail
    exact bodyPost_ret (v := .agg #[.int .i64 3, .int .i64 0, .bool false, .slice none 0 0, .int .i64 0, .int .i64 0, .slice none 0 0]) (by simp [results, Tryd.results128, go_sem, y0, y1, y2, y3, y4, y5, y6]) rfl FIN.out
  by_cases c94 : C = 94
  · subst c94
    rw [show nodeV (grpF s b d) s b i 94 k = .ok (trK 8) k from rfl]
    go_enter Tryd.func128, Tryd.ntmps128
    go_wp2_with fail
    clear hW0 p2
    refine C1.out.mono ?_
    rintro e w2 ⟨rfl, hS⟩
    have S2 := hS
    have HS2 := Lib.hid S2
    have F2 := HKF.out _ _ S2
    clear hS S2 C1
    have FIN := Lib.hid (leaf_put (kind := 8) (code := 0) (HS0.out.trans HS2.out) F2)
    obtain ⟨z7, _⟩ := rx_end7 (.int .i64 8) (.int .i64 0) (.bool false) (.slice none 0 0) (.int .i64 0) (.int .i64 0) (.slice none 0 0) F2
    obtain ⟨⟨y0, y1, y2, y3, y4, y5, y6⟩, _⟩ := z7.seven
    obtain ⟨⟨k0, k1, k2, k3, k4, k5, k6⟩, f0, f1, f2, f3, f4, f5, f6⟩ := F2.seven
    unfold put7 at y0 y1 y2 y3 y4 y5 y6
    clear F2 z7
    go_wp2_with fail
    exact bodyPost_ret (v := .agg #[.int .i64 8, .int .i64 0, .bool false, .slice none 0 0, .int .i64 0, .int .i64 0, .slice none 0 0]) (by simp [results, Tryd.results128, go_sem, y0, y1, y2, y3, y4, y5, y6]) rfl FIN.out
  by_cases c36 : C = 36
  · subst c36
    rw [show nodeV (grpF s b d) s b i 36 k = .ok (trK 9) k from rfl]
    go_enter Tryd.func128, Tryd.ntmps128
    go_wp2_with fail
    clear hW0 p2
    refine C1.out.mono ?_
    rintro e w2 ⟨rfl, hS⟩
    have S2 := hS
    have HS2 := Lib.hid S2
    have F2 := HKF.out _ _ S2
    clear hS S2 C1
    have FIN := Lib.hid (leaf_put (kind := 9) (code := 0) (HS0.out.trans HS2.out) F2)
    obtain ⟨z7, _⟩ := rx_end7 (.int .i64 9) (.int .i64 0) (.bool false) (.slice none 0 0) (.int .i64 0) (.int .i64 0) (.slice none 0 0) F2
    obtain ⟨⟨y0, y1, y2, y3, y4, y5, y6⟩, _⟩ := z7.seven
    obtain ⟨⟨k0, k1, k2, k3, k4, k5, k6⟩, f0, f1, f2, f3, f4, f5, f6⟩ := F2.seven
    unfold put7 at y0 y1 y2 y3 y4 y5 y6
    clear F2 z7
    go_wp2_with fail
    exact bodyPost_ret (v := .agg #[.int .i64 9, .int .i64 0, .bool false, .slice none 0 0, .int .i64 0, .int .i64 0, .slice none 0 0]) (by simp [results, Tryd.results128, go_sem, y0, y1, y2, y3, y4, y5, y6]) rfl FIN.out
  have hv : nodeV (grpF s b d) s b i C k = .ok (trC C) k := by
    unfold nodeV; rw [if_neg c40, if_neg c91, if_neg c92, if_neg c46, if_neg c94, if_neg c36]
  rw [hv]
  have b40 : ((C : Int) == 40) = false := by rw [beq_eq_false_iff_ne]; omega
  have b91 : ((C : Int) == 91) = false := by rw [beq_eq_false_iff_ne]; omega
  have b92 : ((C : Int) == 92) = false := by rw [beq_eq_false_iff_ne]; omega
  have b46 : ((C : Int) == 46) = false := by rw [beq_eq_false_iff_ne]; omega
  have b94 : ((C : Int) == 94) = false := by rw [beq_eq_false_iff_ne]; omega
  have b36 : ((C : Int) == 36) = false := by rw [beq_eq_false_iff_ne]; omega
  clear hv c40 c91 c92 c46 c94 c36
  go_enter Tryd.func128, Tryd.ntmps128
  go_wp2_with fail
  clear hW0 p2
  refine C1.out.mono ?_
  rintro e w2 ⟨rfl, hS⟩
  have S2 := hS
  have HS2 := Lib.hid S2
  have F2 := HKF.out _ _ S2
  clear hS S2 C1
  have FIN := Lib.hid (leaf_put (kind := 2) (code := (C : Int)) (HS0.out.trans HS2.out) F2)
  obtain ⟨z7, _⟩ := rx_end7 (.int .i64 2) (.int .i64 (C : Int)) (.bool false) (.slice none 0 0) (.int .i64 0) (.int .i64 0) (.slice none 0 0) F2
  obtain ⟨⟨y0, y1, y2, y3, y4, y5, y6⟩, _⟩ := z7.seven
  obtain ⟨⟨k0, k1, k2, k3, k4, k5, k6⟩, f0, f1, f2, f3, f4, f5, f6⟩ := F2.seven
  unfold put7 at y0 y1 y2 y3 y4 y5 y6
  clear F2 z7
  go_wp2_with fail
  exact bodyPost_ret (v := .agg #[.int .i64 2, .int .i64 (C : Int), .bool false, .slice none 0 0, .int .i64 0, .int .i64 0, .slice none 0 0]) (by simp [results, Tryd.results128, go_sem, y0, y1, y2, y3, y4, y5, y6]) rfl FIN.out
end Go.Proofs.YtdfacbcenogplaaDoor

namespace Go.Proofs.YtdfacbcenogplaaDoor
open Go.RowKit Go.Lib

/-- Seven stores into a row. -/
abbrev put7o (W : World) (K o : Nat) (v0 v1 v2 v3 v4 v5 v6 : Value) : World := ((((((W.setCell ⟨K, o, none⟩ v0).setCell ⟨K, o + 1, none⟩ v1).setCell ⟨K, o + 2, none⟩ v2).setCell ⟨K, o + 3, none⟩ v3).setCell ⟨K, o + 4, none⟩ v4).setCell ⟨K, o + 5, none⟩ v5).setCell ⟨K, o + 6, none⟩ v6
/-- What 'repeat' leaves. -/
def RepM (pb : Nat) (s : ByteArray) (b : Bool) (i n : Nat) (W : World) (K o : Nat) (vs : Array Value) (r : Option (Rs (Int × Int))) (e : Ending) (w' : World) : Prop :=
  match r with
  | none => e = .returned (.bool false) ∧ Stp pb s b i n W w'
  | some (.bad k er) => e = flt k er ∧ Off2 pb pb W w'
  | some (.ok r k) => e = .returned (.bool true) ∧ ∃ W1, Stp pb s b k n W W1 ∧ w' = (put7o W1 K o (.int .i64 7) (.int .i64 0) (.bool false) (.slice none 0 0) (.int .i64 r.1) (.int .i64 r.2) (.slice (some ⟨W1.heap.size, 0, none⟩) 1 1)).alloc (.cells vs 58)
set_option maxRecDepth 100000 in
set_option maxHeartbeats 2000000 in
theorem rx_repeat {W : World} {pb K o : Nat} {s : ByteArray} {b : Bool} {i n : Nat} (h : Prs W pb s b i n) (hi : i ≤ s.size) (hs : s.size ≤ 1024) {cur : Array Value} (hK : W.heap[K]? = some (.cells cur 58 (0, 0))) (hne : K ≠ pb)
    {kind code : Int} {neg : Bool} {A3 : Option Addr} {n3 c3 : Nat} {lo hi' : Int} {A2 : Option Addr} {n2 c2 : Nat}
    (h0 : cur[o]? = some (.int .i64 kind)) (h1 : cur[o + 1]? = some (.int .i64 code)) (h2 : cur[o + 2]? = some (.bool neg)) (h3 : cur[o + 3]? = some (.slice A3 n3 c3)) (h4 : cur[o + 4]? = some (.int .i64 lo)) (h5 : cur[o + 5]? = some (.int .i64 hi')) (h6 : cur[o + 6]? = some (.slice A2 n2 c2)) :
    Calls Tryd.prog 127 #[pbP pb, .pointer (some ⟨K, o, none⟩)] W (RepM pb s b i n W K o #[.int .i64 kind, .int .i64 code, .bool neg, .slice A3 n3 c3, .int .i64 lo, .int .i64 hi', .slice A2 n2 c2] (repF s i)) := by
  have hlt := Blk.lt h
  have KC := Lib.hid (fun (w : World) (j : Nat) (hS : Stp pb s b j n W w) => show (w.cell? ⟨K, o, none⟩ = some (.int .i64 kind) ∧ w.cell? ⟨K, o + 1, none⟩ = some (.int .i64 code) ∧ w.cell? ⟨K, o + 2, none⟩ = some (.bool neg) ∧ w.cell? ⟨K, o + 3, none⟩ = some (.slice A3 n3 c3) ∧ w.cell? ⟨K, o + 4, none⟩ = some (.int .i64 lo) ∧ w.cell? ⟨K, o + 5, none⟩ = some (.int .i64 hi') ∧ w.cell? ⟨K, o + 6, none⟩ = some (.slice A2 n2 c2)) ∧ (∀ x, w.frozen? ⟨K, x, none⟩ = false) ∧ K < w.heap.size from by
    have hw : w.heap[K]? = some (.cells cur 58 (0, 0)) := (hS.off.block K (Array.getElem?_eq_some_iff.1 hK).1 hne hne).trans hK
    exact ⟨⟨(cell_of_row w _ _ _ _ _ hw).trans h0, (cell_of_row w _ _ _ _ _ hw).trans h1, (cell_of_row w _ _ _ _ _ hw).trans h2, (cell_of_row w _ _ _ _ _ hw).trans h3, (cell_of_row w _ _ _ _ _ hw).trans h4, (cell_of_row w _ _ _ _ _ hw).trans h5, (cell_of_row w _ _ _ _ _ hw).trans h6⟩, fun x => frozen_of_row w _ _ _ _ hw, (Array.getElem?_eq_some_iff.1 hw).1⟩)
  have hst0 := Stp.refl h
  have HS0 := Lib.hid hst0
  clear hK h0 h1 h2 h3 h4 h5 h6 hst0
  obtain ⟨p1, e1⟩ : ∃ p, st1 s i 42 = p := ⟨_, rfl⟩
  obtain ⟨p2, e2⟩ : ∃ p, st1 s i 43 = p := ⟨_, rfl⟩
  obtain ⟨p3, e3⟩ : ∃ p, st1 s i 63 = p := ⟨_, rfl⟩
  have C1 := Lib.hid (rx_take1 h hi hs 42 p1 e1)
  have C2 := Lib.hid (fun w (hS : Stp pb s b i n W w) => rx_take1 hS.prs hi hs 43 p2 e2)
  have C3 := Lib.hid (fun w (hS : Stp pb s b i n W w) => rx_take1 hS.prs hi hs 63 p3 e3)
  have C4 := Lib.hid (fun w (hS : Stp pb s b i n W w) => rx_interval hS.prs hi hs)
  unfold repF
  rw [e1, e2, e3]
  clear h e1 e2 e3
  cases p1 with
  | true =>
    simp only [if_true]
    go_enter Tryd.func127, Tryd.ntmps127
    go_wp2_with fail
    refine C1.out.mono ?_
    rintro e w1 ⟨rfl, hS⟩
    have T1 := Lib.hid (HS0.out.trans hS)
    clear hS C1
    have hS : Stp pb s b (i + 1) n W w1 := T1.out
    obtain ⟨⟨c0, c1, c2', c3', c4, c5, c6⟩, fz, hkl⟩ := KC.out _ _ hS
    have f0 := fz (o)
    have f1 := fz (o + 1)
    have f2 := fz (o + 2)
    have f3 := fz (o + 3)
    have f4 := fz (o + 4)
    have f5 := fz (o + 5)
    have f6 := fz (o + 6)
    have hkne : K ≠ w1.heap.size := by omega
    have HF := Lib.hid hS
    clear hS fz
    go_wp2_with fail
    go_ret
    exact ⟨rfl, w1, HF.out, rfl⟩
  | false =>
    simp only [Bool.false_eq_true, if_false]
    cases p2 with
    | true =>
      simp only [if_true]
      go_enter Tryd.func127, Tryd.ntmps127
      go_wp2_with fail
      refine C1.out.mono ?_
      rintro e w1 ⟨rfl, hS⟩
      have T1 := Lib.hid (HS0.out.trans hS)
      clear hS C1
      go_wp2_with fail
      refine (C2.out _ T1.out).mono ?_
      rintro e w2 ⟨rfl, hS⟩
      have T2 := Lib.hid (T1.out.trans hS)
      clear hS C2
      have hS : Stp pb s b (i + 1) n W w2 := T2.out
      obtain ⟨⟨c0, c1, c2', c3', c4, c5, c6⟩, fz, hkl⟩ := KC.out _ _ hS
      have f0 := fz (o)
      have f1 := fz (o + 1)
      have f2 := fz (o + 2)
      have f3 := fz (o + 3)
      have f4 := fz (o + 4)
      have f5 := fz (o + 5)
      have f6 := fz (o + 6)
      have hkne : K ≠ w2.heap.size := by omega
      have HF := Lib.hid hS
      clear hS fz
      go_wp2_with fail
      go_ret
      exact ⟨rfl, w2, HF.out, rfl⟩
    | false =>
      simp only [Bool.false_eq_true, if_false]
      cases p3 with
      | true =>
        simp only [if_true]
        go_enter Tryd.func127, Tryd.ntmps127
        go_wp2_with fail
        refine C1.out.mono ?_
        rintro e w1 ⟨rfl, hS⟩
        have T1 := Lib.hid (HS0.out.trans hS)
        clear hS C1
        go_wp2_with fail
        refine (C2.out _ T1.out).mono ?_
        rintro e w2 ⟨rfl, hS⟩
        have T2 := Lib.hid (T1.out.trans hS)
        clear hS C2
        go_wp2_with fail
        refine (C3.out _ T2.out).mono ?_
        rintro e w3 ⟨rfl, hS⟩
        have T3 := Lib.hid (T2.out.trans hS)
        clear hS C3
        have hS : Stp pb s b (i + 1) n W w3 := T3.out
        obtain ⟨⟨c0, c1, c2', c3', c4, c5, c6⟩, fz, hkl⟩ := KC.out _ _ hS
        have f0 := fz (o)
        have f1 := fz (o + 1)
        have f2 := fz (o + 2)
        have f3 := fz (o + 3)
        have f4 := fz (o + 4)
        have f5 := fz (o + 5)
        have f6 := fz (o + 6)
        have hkne : K ≠ w3.heap.size := by omega
        have HF := Lib.hid hS
        clear hS fz
        go_wp2_with fail
        go_ret
        exact ⟨rfl, w3, HF.out, rfl⟩
      | false =>
        simp only [Bool.false_eq_true, if_false]
        obtain ⟨R, hR⟩ : ∃ R, ivlF s i = R := ⟨_, rfl⟩
        unfold IvlOut at C4
        rw [hR] at C4 ⊢
        clear hR
        match R, C4 with
        | none, C4 =>
          go_enter Tryd.func127, Tryd.ntmps127
          go_wp2_with fail
          refine C1.out.mono ?_
          rintro e w1 ⟨rfl, hS⟩
          have T1 := Lib.hid (HS0.out.trans hS)
          clear hS C1
          go_wp2_with fail
          refine (C2.out _ T1.out).mono ?_
          rintro e w2 ⟨rfl, hS⟩
          have T2 := Lib.hid (T1.out.trans hS)
          clear hS C2
          go_wp2_with fail
          refine (C3.out _ T2.out).mono ?_
          rintro e w3 ⟨rfl, hS⟩
          have T3 := Lib.hid (T2.out.trans hS)
          clear hS C3
          go_wp2_with fail
          refine (show Calls _ _ _ _ _ from C4.out _ T3.out).mono ?_
          rintro e w4 ⟨rfl, hS⟩
          have T4 := Lib.hid (T3.out.trans hS)
          clear hS C4
          go_wp2_with fail
          go_ret
          exact ⟨rfl, T4.out⟩
        | some (.bad k er), C4 =>
          go_enter Tryd.func127, Tryd.ntmps127
          go_wp2_with fail
          refine C1.out.mono ?_
          rintro e w1 ⟨rfl, hS⟩
          have T1 := Lib.hid (HS0.out.trans hS)
          clear hS C1
          go_wp2_with fail
          refine (C2.out _ T1.out).mono ?_
          rintro e w2 ⟨rfl, hS⟩
          have T2 := Lib.hid (T1.out.trans hS)
          clear hS C2
          go_wp2_with fail
          refine (C3.out _ T2.out).mono ?_
          rintro e w3 ⟨rfl, hS⟩
          have T3 := Lib.hid (T2.out.trans hS)
          clear hS C3
          go_wp2_with fail
          refine (show Calls _ _ _ _ _ from C4.out _ T3.out).mono ?_
          rintro e w4 ⟨rfl, hO⟩
          have HO := Lib.hid hO
          clear hO C4
          go_wp2_with fail
          exact ⟨rfl, rfl, T3.out.off.trans HO.out⟩
        | some (.ok r k), C4 =>
          go_enter Tryd.func127, Tryd.ntmps127
          go_wp2_with fail
          refine C1.out.mono ?_
          rintro e w1 ⟨rfl, hS⟩
          have T1 := Lib.hid (HS0.out.trans hS)
          clear hS C1
          go_wp2_with fail
          refine (C2.out _ T1.out).mono ?_
          rintro e w2 ⟨rfl, hS⟩
          have T2 := Lib.hid (T1.out.trans hS)
          clear hS C2
          go_wp2_with fail
          refine (C3.out _ T2.out).mono ?_
          rintro e w3 ⟨rfl, hS⟩
          have T3 := Lib.hid (T2.out.trans hS)
          clear hS C3
          go_wp2_with fail
          refine (show Calls _ _ _ _ _ from C4.out _ T3.out).mono ?_
          rintro e w4 ⟨rfl, hS⟩
          have T4 := Lib.hid (T3.out.trans hS)
          clear hS C4
          have hS : Stp pb s b k n W w4 := T4.out
          obtain ⟨⟨c0, c1, c2', c3', c4, c5, c6⟩, fz, hkl⟩ := KC.out _ _ hS
          have f0 := fz (o)
          have f1 := fz (o + 1)
          have f2 := fz (o + 2)
          have f3 := fz (o + 3)
          have f4 := fz (o + 4)
          have f5 := fz (o + 5)
          have f6 := fz (o + 6)
          have hkne : K ≠ w4.heap.size := by omega
          have HF := Lib.hid hS
          clear hS fz
          go_wp2_with fail
          go_ret
          exact ⟨rfl, w4, HF.out, rfl⟩
end Go.Proofs.YtdfacbcenogplaaDoor

namespace Go.Proofs.YtdfacbcenogplaaDoor
open Go.RowKit Go.Lib

theorem Kds.last {w : World} {n : Nat} {v : Value} {ks : List Tr} {t : Tr} (h : Kds w n v (ks ++ [t])) :
    ∃ (K cap : Nat) (cur : Array Value) (kind code : Int) (neg : Bool) (A3 : Option Addr) (n3 c3 : Nat) (lo hi : Int) (A2 : Option Addr) (n2 c2 : Nat), v = .slice (some ⟨K, 0, none⟩) (ks.length + 1) cap ∧ n ≤ K ∧ w.heap[K]? = some (.cells cur 58 (0, 0)) ∧
      (cur[ks.length * 7]? = some (.int .i64 kind) ∧ cur[ks.length * 7 + 1]? = some (.int .i64 code) ∧ cur[ks.length * 7 + 2]? = some (.bool neg) ∧ cur[ks.length * 7 + 3]? = some (.slice A3 n3 c3) ∧ cur[ks.length * 7 + 4]? = some (.int .i64 lo) ∧ cur[ks.length * 7 + 5]? = some (.int .i64 hi) ∧ cur[ks.length * 7 + 6]? = some (.slice A2 n2 c2)) ∧
      TrV w (fun g => n ≤ g ∧ g ≠ K) t #[.int .i64 kind, .int .i64 code, .bool neg, .slice A3 n3 c3, .int .i64 lo, .int .i64 hi, .slice A2 n2 c2] := by
  obtain ⟨xs, ho, hx⟩ := h
  have ht := hx ks.length t (by simp)
  rw [List.length_append, List.length_cons, List.length_nil, Nat.zero_add] at ho
  rcases ho.2 with ⟨_, e⟩ | ⟨K, cap, cur, rfl, hK, hrow, h1, h2, h3, h4⟩
  · omega
  have ht2 : t.In w (fun g => n ≤ g ∧ g ≠ K) (rdL xs (ks.length * 7)) := ht.kept (fun g _ hp => ⟨⟨hp.1, fun e => hp.2 (by rw [e]; rfl)⟩, rfl⟩)
  have hcx : ∀ i, i < 7 → rdL xs (ks.length * 7) i = cur[ks.length * 7 + i]? := fun i hi => by
    rw [rdL, ← h4, List.getElem?_take_of_lt (by omega), Array.getElem?_toList]
  obtain ⟨kind, code, neg, set, lo, hi, kids⟩ := t
  rw [Tr.In] at ht2
  obtain ⟨sv, A2, c2, t0, t1, t2, t3, t4, t5, t6, hn, hR, hJ⟩ := ht2
  obtain ⟨A3, c3, rfl⟩ := rx_store_set hR
  rw [hcx _ (by omega)] at t0 t1 t2 t3 t4 t5 t6
  exact ⟨K, cap, cur, kind, code, neg, A3, _, c3, lo, hi, A2, _, c2, rfl, hK, hrow, ⟨t0, t1, t2, t3, t4, t5, t6⟩, TrV.mk hn hR hJ⟩
theorem set7_at (xs : List Value) (o : Nat) (a0 a1 a2 a3 a4 a5 a6 : Value) (h : o + 7 ≤ xs.length) : ∀ i, i < 7 → (((((((xs.set o a0).set (o + 1) a1).set (o + 2) a2).set (o + 3) a3).set (o + 4) a4).set (o + 5) a5).set (o + 6) a6)[o + i]? = [a0, a1, a2, a3, a4, a5, a6][i]? := fun i hi => by
  have : i = 0 ∨ i = 1 ∨ i = 2 ∨ i = 3 ∨ i = 4 ∨ i = 5 ∨ i = 6 := by omega
  have h0 : o < xs.length := by omega
  have h1 : o + 1 < xs.length := by omega
  have h2 : o + 2 < xs.length := by omega
  have h3 : o + 3 < xs.length := by omega
  have h4 : o + 4 < xs.length := by omega
  have h5 : o + 5 < xs.length := by omega
  have h6 : o + 6 < xs.length := by omega
  rcases this with rfl | rfl | rfl | rfl | rfl | rfl | rfl <;> simp [*]
theorem set7_out (xs : List Value) (o : Nat) (a0 a1 a2 a3 a4 a5 a6 : Value) (i : Nat) (h : i < o) : (((((((xs.set o a0).set (o + 1) a1).set (o + 2) a2).set (o + 3) a3).set (o + 4) a4).set (o + 5) a5).set (o + 6) a6)[i]? = xs[i]? := by
  rw [List.getElem?_set_ne (by omega), List.getElem?_set_ne (by omega), List.getElem?_set_ne (by omega), List.getElem?_set_ne (by omega), List.getElem?_set_ne (by omega), List.getElem?_set_ne (by omega), List.getElem?_set_ne (by omega)]
theorem off_put7o (W : World) (K o : Nat) (v0 v1 v2 v3 v4 v5 v6 : Value) : Off2 K K W (put7o W K o v0 v1 v2 v3 v4 v5 v6) :=
  ((((((Off2.setCell W K K o v0).trans (Off2.setCell _ K K (o + 1) v1)).trans (Off2.setCell _ K K (o + 2) v2)).trans (Off2.setCell _ K K (o + 3) v3)).trans (Off2.setCell _ K K (o + 4) v4)).trans (Off2.setCell _ K K (o + 5) v5)).trans (Off2.setCell _ K K (o + 6) v6)
/-- The last node is repeated. -/
theorem Kds.rep {w1 : World} {n K cap : Nat} {ks : List Tr} {t : Tr} {vs : Array Value} {lo hi : Int} (h : Kds w1 n (.slice (some ⟨K, 0, none⟩) (ks.length + 1) cap) (ks ++ [t])) (_hK : n ≤ K) (ht : TrV w1 (fun g => n ≤ g ∧ g ≠ K) t vs) (hn : n ≤ w1.heap.size) (hKs : K < w1.heap.size) :
    Kds ((put7o w1 K (ks.length * 7) (.int .i64 7) (.int .i64 0) (.bool false) (.slice none 0 0) (.int .i64 lo) (.int .i64 hi) (.slice (some ⟨w1.heap.size, 0, none⟩) 1 1)).alloc (.cells vs 58)) n (.slice (some ⟨K, 0, none⟩) (ks.length + 1) cap) (ks ++ [trR lo hi t]) := by
  obtain ⟨xs, ho, hx⟩ := h
  have oF := off_put7o w1 K (ks.length * 7) (.int .i64 7) (.int .i64 0) (.bool false) (.slice none 0 0) (.int .i64 lo) (.int .i64 hi) (.slice (some ⟨w1.heap.size, 0, none⟩) 1 1)
  have hz : (put7o w1 K (ks.length * 7) (.int .i64 7) (.int .i64 0) (.bool false) (.slice none 0 0) (.int .i64 lo) (.int .i64 hi) (.slice (some ⟨w1.heap.size, 0, none⟩) 1 1)).heap.size = w1.heap.size := by simp
  rw [List.length_append, List.length_cons, List.length_nil, Nat.zero_add] at ho
  have hl := ho.1
  have s0 := (ho.stored (ks.length * 7) (.int .i64 7)).1
  have s1 := (s0.stored (ks.length * 7 + 1) (.int .i64 0)).1
  have s2 := (s1.stored (ks.length * 7 + 2) (.bool false)).1
  have s3 := (s2.stored (ks.length * 7 + 3) (.slice none 0 0)).1
  have s4 := (s3.stored (ks.length * 7 + 4) (.int .i64 lo)).1
  have s5 := (s4.stored (ks.length * 7 + 5) (.int .i64 hi)).1
  have s6 := (s5.stored (ks.length * 7 + 6) (.slice (some ⟨w1.heap.size, 0, none⟩) 1 1)).1
  have s7 := s6.alloc (.cells vs 58)
  have hB := Blk.new (put7o w1 K (ks.length * 7) (.int .i64 7) (.int .i64 0) (.bool false) (.slice none 0 0) (.int .i64 lo) (.int .i64 hi) (.slice (some ⟨w1.heap.size, 0, none⟩) 1 1)) vs 58
  rw [hz] at hB
  have hkeep : ∀ g, g < w1.heap.size → g ≠ K → ((put7o w1 K (ks.length * 7) (.int .i64 7) (.int .i64 0) (.bool false) (.slice none 0 0) (.int .i64 lo) (.int .i64 hi) (.slice (some ⟨w1.heap.size, 0, none⟩) 1 1)).alloc (.cells vs 58)).heap[g]? = w1.heap[g]? := fun g hg hne =>
    (Below.heap_alloc _ _ g (by rw [hz]; exact hg)).trans (oF.block g hg hne hne)
  refine ⟨_, by rw [List.length_append, List.length_cons, List.length_nil, Nat.zero_add]; exact s7, fun j u hj => ?_⟩
  rcases Nat.lt_or_ge j ks.length with hlt | hge
  · rw [List.getElem?_append_left hlt] at hj
    have := hx j u (by rw [List.getElem?_append_left hlt]; exact hj)
    refine (this.kept (fun g hg hp => ⟨hp, hkeep g hg (fun e => hp.2 (by rw [e]; rfl))⟩)).congr fun i hi => ?_
    exact set7_out xs (ks.length * 7) _ _ _ _ _ _ _ (j * 7 + i) (by omega)
  · have hjl : j = ks.length := by
      have := (List.getElem?_eq_some_iff.1 hj).1
      simp at this
      omega
    subst hjl
    have hu : trR lo hi t = u := by simpa using hj
    subst hu
    have g7 := set7_at xs (ks.length * 7) (.int .i64 7) (.int .i64 0) (.bool false) (.slice none 0 0) (.int .i64 lo) (.int .i64 hi) (.slice (some ⟨w1.heap.size, 0, none⟩) 1 1) (by omega)
    unfold trR
    rw [Tr.In]
    refine ⟨.slice none 0 0, some ⟨w1.heap.size, 0, none⟩, 1, g7 0 (by omega), g7 1 (by omega), g7 2 (by omega), g7 3 (by omega), g7 4 (by omega), g7 5 (by omega), g7 6 (by omega), by simp, RgIn.nil _ _ none 0, ?_⟩
    rw [Tr.Ins]
    refine ⟨⟨w1.heap.size, rfl, ⟨hn, fun e => by have h2 : w1.heap.size = K := Option.some.inj e; omega⟩, ?_⟩, Tr.Ins.nil _ _ _ _⟩
    refine ((ht.2).kept (fun g hg hp => ⟨⟨hp.1, fun e => hp.2 (by cases e; rfl)⟩, hkeep g hg hp.2⟩)).congr fun i hi => ?_
    rw [Nat.zero_add]
    exact hB.cell i
/-- One more node. -/
theorem Kds.snoc {w X w2 : World} {n m : Nat} {v v' : Value} {ts : List Tr} {t : Tr} {xs : List Value} {vs : Array Value} (ho : w.ownsRow n 58 7 v ts.length xs) (hx : ∀ (j : Nat) (t : Tr), ts[j]? = some t → t.In w (fun g => n ≤ g ∧ some g ≠ v.ownBlock) (rdL xs (j * 7)))
    (ht : TrV w (fun c => m ≤ c) t vs) (hm : ∀ q, v.ownBlock = some q → q < m) (hnm : n ≤ m) (hX : Below w.heap.size w X)
    (ho2 : w2.ownsRow n 58 7 v' (ts.length + 1) (xs ++ vs.toList)) (hgr : X.grownBy w2 v.ownBlock) (hv : v'.ownBlock = v.ownBlock ∨ v'.ownBlock = some X.heap.size) : Kds w2 n v' (ts ++ [t]) := by
  have hkeep : ∀ g, g < w.heap.size → some g ≠ v.ownBlock → some g ≠ v'.ownBlock ∧ w2.heap[g]? = w.heap[g]? := fun g hg hne => by
    have hs := hX.size
    refine ⟨?_, (hgr.block g (by omega) hne).trans (hX.block g hg)⟩
    rcases hv with e | e
    · rw [e]; exact hne
    · rw [e]
      intro e2
      have := Option.some.inj e2
      omega
  refine ⟨_, by rw [List.length_append, List.length_cons, List.length_nil, Nat.zero_add]; exact ho2, fun j u hj => ?_⟩
  have hl := ho.1
  rcases Nat.lt_or_ge j ts.length with hlt | hge
  · rw [List.getElem?_append_left hlt] at hj
    refine ((hx j u hj).kept (fun g hg hp => ⟨⟨hp.1, (hkeep g hg hp.2).1⟩, (hkeep g hg hp.2).2⟩)).congr fun i hi => ?_
    rw [rdL, rdL, List.getElem?_append_left (by omega)]
  · have hjl : j = ts.length := by
      have := (List.getElem?_eq_some_iff.1 hj).1
      simp at this
      omega
    subst hjl
    have hu : t = u := by simpa using hj
    subst hu
    refine (ht.2.kept (fun g hg hp => ?_)).congr fun i hi => ?_
    · have hp : m ≤ g := hp
      have hne : some g ≠ v.ownBlock := fun e => by have := hm g e.symm; omega
      exact ⟨⟨by omega, (hkeep g hg hne).1⟩, (hkeep g hg hne).2⟩
    · rw [rdL, List.getElem?_append_right (by omega), hl, show ts.length * 7 + i - ts.length * 7 = i by omega, Array.getElem?_toList]
end Go.Proofs.YtdfacbcenogplaaDoor
