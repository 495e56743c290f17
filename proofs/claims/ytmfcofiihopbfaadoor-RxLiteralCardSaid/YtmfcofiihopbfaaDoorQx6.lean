/- Several texts in one (The walk of the law RxLiteral (printed by tools/gen_rxlit.py)). -/
import Derived.Lib.BufferRead
import Derived.Test.YtmfcofiihopbfaaDoorQx5
namespace Go.Proofs.YtmfcofiihopbfaaDoor
open Go.RowKit Go.Lib

theorem rx_and127 : ∀ z : Nat, z < 256 → bits .and .u8 (z : Int) 127 = ((z % 128 : Nat) : Int) := by decide +kernel
theorem rx_own_grown {w w' : World} {n : Nat} {t : TypeId} {z : Nat} {v : Value} {k : Nat} {xs : List Value} {r : Option Nat} (h : w.ownsRow n t z v k xs) (hg : w.grownBy w' r) (hr : ∀ g, v.ownBlock = some g → some g ≠ r) : w'.ownsRow n t z v k xs := by
  refine ⟨h.1, ?_⟩
  rcases h.2 with h0 | ⟨g, cap, cur, e, hn, hr', hz⟩
  · exact .inl h0
  · exact .inr ⟨g, cap, cur, e, hn, (hg.block g (Array.getElem?_eq_some_iff.1 hr').1 (hr g (by rw [e]; rfl))).trans hr', hz⟩
theorem rx_own_ne {w : World} {n m : Nat} {t u : TypeId} {y z : Nat} {v v' : Value} {k j : Nat} {xs ys : List Value} (h : w.ownsRow n t y v k xs) (h' : w.ownsRow m u z v' j ys) (ht : t ≠ u) : ∀ g, v.ownBlock = some g → some g ≠ v'.ownBlock := fun g hg e => by
  rcases h.2 with ⟨h0, _⟩ | ⟨g1, _, cur, h1, _, r1, _⟩
  · rw [h0] at hg; cases hg
  rcases h'.2 with ⟨h0', _⟩ | ⟨g2, _, cur', h2, _, r2, _⟩
  · rw [h0'] at e; cases e
  rw [h1] at hg
  rw [h2] at e
  have e1 : g1 = g := Option.some.inj hg
  have e2 : g = g2 := Option.some.inj e
  subst e1 e2
  rw [r1] at r2
  injection r2 with r2
  injection r2 with _ r2 _
  exact ht r2
theorem rx_own_slice {w : World} {n : Nat} {t : TypeId} {z : Nat} {v : Value} {k : Nat} {xs : List Value} (h : w.ownsRow n t z v k xs) : ∃ A cap, v = .slice A k cap := by
  rcases h.2 with ⟨rfl, h0⟩ | ⟨g, cap, cur, rfl, _⟩
  · exact ⟨none, 0, by rw [h0]⟩
  · exact ⟨_, _, rfl⟩
/-- Bytes as values. -/
def u8s (L : List UInt8) : List Value := L.map fun x => Value.int .u8 x.toNat
theorem u8s_app (L M : List UInt8) : u8s (L ++ M) = u8s L ++ u8s M := List.map_append
theorem rx_conv (W : World) (B : Nat) (v : Value) (l : List UInt8) (hown : W.ownsRow B 5 1 v l.length (u8s l)) :
    (convert 37 9 v).run Tryd.prog W = .ok (.string ⟨l.toArray⟩) W := by
  rcases hown.2 with ⟨rfl, h0⟩ | ⟨g, cap, cur, rfl, _⟩
  · have : l = [] := List.eq_nil_of_length_eq_zero h0
    subst this
    exact run_convert_nil_bytes W 37 9 5 0 Tryd.underlying37 Tryd.underlying5 Tryd.underlying9
  · refine run_convert_bytes_back (P := Tryd.prog) W 37 9 5 ⟨g, 0, none⟩ cap l Tryd.underlying37 Tryd.underlying5 Tryd.underlying9 (fun j hj => ?_)
    exact hown.cells (g := g) rfl j _ (by simp [u8s, hj])
theorem info_rxu8 : (Tryd.prog.info? 5).map (fun i => (i.zero, i.size, i.bytes)) = some (some (.int .u8 0), 1, 1) := by kernel_rfl
/-- A character's node as values. -/
abbrev chV (c : Nat) : List Value := [.int .i64 2, .int .i64 (c : Int), .bool false, .slice none 0 0, .int .i64 0, .int .i64 0, .slice none 0 0]
def chVs (l : List UInt8) : List Value := l.flatMap fun c => chV c.toNat
theorem chVs_app (l m : List UInt8) : chVs (l ++ m) = chVs l ++ chVs m := List.flatMap_append
theorem chVs_at : ∀ (l : List UInt8) (j : Nat) (c : UInt8), l[j]? = some c → ∀ i, i < 7 → (chVs l)[j * 7 + i]? = (chV c.toNat)[i]?
  | [], j, c, h, _, _ => by simp at h
  | x :: l, 0, c, h, i, hi => by
    obtain rfl : x = c := by simpa using h
    rw [chVs, List.flatMap_cons, Nat.zero_mul, Nat.zero_add, List.getElem?_append_left (by simpa using hi)]
  | x :: l, j + 1, c, h, i, hi => by
    have := chVs_at l j c (by simpa using h) i hi
    rw [chVs, List.flatMap_cons, List.getElem?_append_right (by simp; omega)]
    rw [← this, chVs]
    congr 1
    simp
    omega
theorem chs_ins {w : World} {n : Nat} {A : Option Addr} {k cap : Nat} {l : List UInt8} (h : w.ownsRow n 30 7 (.slice A k cap) k (chVs l)) (hk : k = l.length) : Tr.Ins w (fun g => n ≤ g) (l.map fun c => trC c.toNat) A 0 := by
  refine Tr.Ins.of fun j t hj => ?_
  have hjl : j < l.length := by
    have := (List.getElem?_eq_some_iff.1 hj).1
    simpa using this
  obtain ⟨c, hc⟩ : ∃ c, l[j]? = some c := ⟨_, List.getElem?_eq_getElem hjl⟩
  have ht : t = trC c.toNat := by
    rw [List.getElem?_map, hc] at hj
    exact (Option.some.inj hj).symm
  subst ht
  rcases h.2 with ⟨e, h0⟩ | ⟨g, cap', cur, e, hg, _⟩
  · omega
  · injection e with e1 e2 e3
    subst e1
    refine ⟨g, rfl, hg, ?_⟩
    have := (TrV.leaf w (fun g => n ≤ g) 2 (c.toNat : Int) false 0 0).2
    refine Tr.In.congr this fun i hi => ?_
    have hx := chVs_at l j c hc i hi
    obtain ⟨v, hv⟩ : ∃ v, (chV c.toNat)[i]? = some v := ⟨_, List.getElem?_eq_getElem (by simpa using hi)⟩
    rw [hv] at hx
    have h2 := h.cells rfl (j * 7 + i) v hx
    rw [Addr.add_lit] at h2
    simp only [Nat.zero_add] at h2 ⊢
    rw [h2, ← hv]
    simp [chV]
theorem enc_len (c : UInt8) : (encL c).length ≤ 2 := by
  unfold encL
  split <;> simp
theorem encs_len : ∀ l : List UInt8, ((l.map encL).flatten).length ≤ 2 * l.length
  | [] => by simp
  | c :: l => by
    have := encs_len l
    have := enc_len c
    simp only [List.map_cons, List.flatten_cons, List.length_append, List.length_cons]
    omega
theorem encs_succ {l : List UInt8} {k : Nat} {c : UInt8} (h : l[k]? = some c) : ((l.take (k + 1)).map encL).flatten = ((l.take k).map encL).flatten ++ encL c := by
  rw [List.take_add_one, h]
  simp
theorem takes_succ {l : List UInt8} {k : Nat} {c : UInt8} (h : l[k]? = some c) : l.take (k + 1) = l.take k ++ [c] := by
  rw [List.take_add_one, h]
  rfl
/-- The characters that are asked for. -/
def lowL (s : ByteArray) : List UInt8 := s.data.toList.map fun x => UInt8.ofNat (x.toNat % 128)
theorem lowL_at (s : ByteArray) (k : Nat) (h : k < s.size) (z : Nat) (hz : (s[k]'h).toNat = z) : ∃ c, (lowL s)[k]? = some c ∧ c.toNat = z % 128 := by
  refine ⟨UInt8.ofNat (z % 128), ?_, by simp; omega⟩
  unfold lowL
  rw [List.getElem?_map, rx_get s k h, ← get!_lt s k h]
  simp [hz]
theorem lowL_len (s : ByteArray) : (lowL s).length = s.size := by
  unfold lowL
  rw [List.length_map, ← Lib.size_eq]
theorem lowL_low (s : ByteArray) : ∀ c ∈ lowL s, c.toNat < 128 := fun c hc => by
  unfold lowL at hc
  rw [List.mem_map] at hc
  obtain ⟨x, _, rfl⟩ := hc
  simp
  omega
/-- The classes of characters. -/
theorem lit_cls (c : Nat) (h : c < 128) : c = 60 ∨ c = 62 ∨ c = 39 ∨ c = 96 ∨ (48 ≤ c ∧ c ≤ 57) ∨ (65 ≤ c ∧ c ≤ 90) ∨ (97 ≤ c ∧ c ≤ 122) ∨ (c < 48 ∧ c ≠ 39) ∨ (57 < c ∧ c < 65 ∧ c ≠ 60 ∧ c ≠ 62) ∨ (90 < c ∧ c < 97 ∧ c ≠ 96) ∨ (122 < c) := by omega
set_option maxRecDepth 100000 in
set_option maxHeartbeats 40000000 in
theorem rxLiteral_any (s : ByteArray) {W : World} (hE : REnv W) : Calls Tryd.prog 5 #[.string s] W fun e w' => e = .returned (.bool true) ∧ Below W.heap.size W w' := by
  have CF := Lib.hid (rxFixed_any hE)
  by_cases hbig : 150 < s.size
  · have hd : decide ((150 : Int) < (s.size : Int)) = true := decide_eq_true (by omega)
    clear hE
    go_enter Tryd.func5, Tryd.ntmps5
    go_wp2_with fail
    refine CF.out.mono ?_
    rintro e w1 ⟨rfl, hb⟩
    have HB := Lib.hid hb
    clear hb CF
    go_wp2_with fail
    go_ret
    exact ⟨rfl, HB.out⟩
  have hd : decide ((150 : Int) < (s.size : Int)) = false := decide_eq_false (by omega)
  obtain ⟨i0, hi, hz0, hz1, hz2⟩ := info_parts info_rxu8
  have HI := Lib.hid (And.intro hi (And.intro hz0 (And.intro hz1 hz2)))
  obtain ⟨r0, ri, rz0, rz1, rz2⟩ := info_parts info_rx
  have HR := Lib.hid (And.intro ri (And.intro rz0 (And.intro rz1 rz2)))
  obtain ⟨l, hl⟩ : ∃ l, lowL s = l := ⟨_, rfl⟩
  have hll : l.length = s.size := by rw [← hl, lowL_len]
  have hlo : ∀ c ∈ l, c.toNat < 128 := by rw [← hl]; exact lowL_low s
  have AT := Lib.hid (fun (k : Nat) (h : k < s.size) (z : Nat) (hz : (s[k]'h).toNat = z) => hl ▸ lowL_at s k h z hz)
  have HE := Lib.hid hE
  have hel := encs_len l
  obtain ⟨S, hS⟩ : ∃ S : ByteArray, (⟨((l.map encL).flatten).toArray⟩ : ByteArray) = S := ⟨_, rfl⟩
  have lS : S.data.toList = (l.map encL).flatten := by rw [← hS]
  have zS : S.size ≤ 1024 := by rw [Lib.size_eq, lS]; omega
  have hPr := lit_parse l S (by omega) hlo lS
  have CP := Lib.hid (fun w (hb : Below W.heap.size W w) => show Calls Tryd.prog 8 #[.string S, .bool false] w (PrsOut w (togF 5 (l.map fun c => trC c.toNat), 0, 0)) from hPr ▸ rx_parse zS false (hE.kept hb))
  have CV := Lib.hid (fun (w : World) (B : Nat) (v : Value) (h : w.ownsRow B 5 1 v ((l.map encL).flatten).length (u8s (l.map encL).flatten)) => show (convert 37 9 v).run Tryd.prog w = .ok (.string S) w from hS ▸ rx_conv w B v _ h)
  have HLL0 := Lib.hid hll
  obtain ⟨n, hn⟩ : ∃ n, s.size = n := ⟨_, rfl⟩
  have HN := Lib.hid hn
  have hn150 : n ≤ 150 := by omega
  clear hi hz0 hz1 hz2 ri rz0 rz1 rz2 hl hlo hE hel hS lS zS hPr hll hbig
  rw [hn] at hd
  clear hn
  go_enter Tryd.func5, Tryd.ntmps5
  have hsz := HN.out
  go_wp2_with fail
  refine CF.out.mono ?_
  rintro e w1 ⟨rfl, hb1⟩
  have HB1 := Lib.hid hb1
  clear hb1 CF
  go_wp2_with fail
  clear hd
  go_loopw [3, 4, 5] (fun pv qv iv wr => ∃ k : Nat, iv = .int .i64 (k : Int) ∧ k ≤ n ∧ (wr.ownsRow w1.heap.size 5 1 pv (((l.take k).map encL).flatten).length (u8s ((l.take k).map encL).flatten) ∧ wr.ownsRow w1.heap.size 30 7 qv k (chVs (l.take k))) ∧ Below w1.heap.size w1 wr) (fun _ _ iv _ => n - (RowKit.intOf iv).toNat)
  case atStart => exact ⟨0, rfl, Nat.zero_le _, ⟨World.ownsRow_nil _ _ _ _, World.ownsRow_nil _ _ _ _⟩, Below.refl _ _⟩
  case round =>
    obtain ⟨k, rfl, hk, ⟨hp, hq⟩, hB⟩ := hrel
    by_cases hlt : k < n
    · have hks : k < s.size := by omega
      obtain ⟨z, hz⟩ : ∃ z, (s[k]'hks).toNat = z := ⟨_, rfl⟩
      have z256 : z < 256 := by rw [← hz]; exact UInt8.toNat_lt _
      obtain ⟨u, hu1, hu2⟩ := AT.out k hks z hz
      have hzi : ((s[k]'hks).toNat : Int) = (z : Int) := by rw [hz]
      obtain ⟨c, hc⟩ : ∃ c, z % 128 = c := ⟨_, rfl⟩
      have c128 : c < 128 := by omega
      have hand := rx_and127 z z256
      rw [hc] at hand hu2
      obtain ⟨k1, hk1⟩ : ∃ k1, k + 1 = k1 := ⟨_, rfl⟩
      have hw5 : IntKind.i64.wrap ((k : Int) + 1) = (k1 : Int) := by simp [IntKind.wrap, IntKind.bits, IntKind.signed]; omega
      have hw6 : IntKind.i64.wrap (c : Int) = (c : Int) := by simp [IntKind.wrap, IntKind.bits, IntKind.signed]; omega
      have hsz2 := hB.size
      have hkl : k ≤ l.length := by rw [HLL0.out]; omega
      have hel := encs_len (l.take k)
      rw [List.length_take, Nat.min_eq_left hkl] at hel
      obtain ⟨L, hL⟩ : ∃ L, ((l.take k).map encL).flatten = L := ⟨_, rfl⟩
      obtain ⟨X, hX⟩ : ∃ X, chVs (l.take k) = X := ⟨_, rfl⟩
      have STEP := Lib.hid (fun (v2 v3 : Value) (w : World) (h1 : w.ownsRow w1.heap.size 5 1 v2 (L ++ encL u).length (u8s (L ++ encL u))) (h2 : w.ownsRow w1.heap.size 30 7 v3 (k + 1) (X ++ chV c)) =>
        show w.ownsRow w1.heap.size 5 1 v2 (((l.take k1).map encL).flatten).length (u8s ((l.take k1).map encL).flatten) ∧ w.ownsRow w1.heap.size 30 7 v3 k1 (chVs (l.take k1)) from by
          rw [← hk1, encs_succ hu1, hL, takes_succ hu1, chVs_app, hX]
          refine ⟨h1, ?_⟩
          have : chVs [u] = chV c := by unfold chVs; rw [List.flatMap_cons, List.flatMap_nil, List.append_nil, hu2]
          rw [this]
          exact h2)
      rw [hL] at hp hel
      rw [hX] at hq
      obtain ⟨m, hm⟩ : ∃ m, L.length = m := ⟨_, rfl⟩
      rw [hm] at hp hel
      have HLL := Lib.hid hm
      have hcl := lit_cls c c128
      have hb0 : (k : Int) < (n : Int) := by omega
      have hb1 : (0 : Int) ≤ (k : Int) := by omega
      clear AT hz hc hu1 hL hX hm hkl CP CV
      rcases hcl with hcl | hcl | hcl | hcl | hcl | hcl | hcl | hcl | hcl | hcl | hcl
      · have g0 : decide ((48 : Int) ≤ (c : Int)) = true := decide_eq_true (by omega)
        have g1 : decide ((c : Int) ≤ 57) = false := decide_eq_false (by omega)
        have g2 : decide ((97 : Int) ≤ (c : Int)) = false := decide_eq_false (by omega)
        have g3 : decide ((c : Int) ≤ 122) = true := decide_eq_true (by omega)
        have g4 : decide ((65 : Int) ≤ (c : Int)) = false := decide_eq_false (by omega)
        have g5 : decide ((c : Int) ≤ 90) = true := decide_eq_true (by omega)
        have f0 : ((c : Int) == 60) = true := beq_iff_eq.2 (by omega)
        have f1 : ((c : Int) == 62) = false := beq_eq_false_iff_ne.2 (by omega)
        have f2 : ((c : Int) == 39) = false := beq_eq_false_iff_ne.2 (by omega)
        have f3 : ((c : Int) == 96) = false := beq_eq_false_iff_ne.2 (by omega)
        have HEn := Lib.hid (show encL u = [u] from by rw [encL, if_pos (by rw [hu2]; unfold litQ alnF; simp only [decide_eq_true_eq]; omega)])
        clear hcl
        go_wp2_with (at_builtin; refine wpList_append_own_at _ rfl _ _ 37 rfl w1.heap.size 5 i0 _ 1 1 Tryd.underlying37 HI.out.1 HI.out.2.1 HI.out.2.2.1 HI.out.2.2.2 rfl (by decide) _ m (u8s L) rfl (hp.alloc _) ⟨wr.heap.size, 0, none⟩ 1 1 [.int .u8 (c : Int)] rfl rfl (show ∀ jj u, [.int .u8 (c : Int)][jj]? = some u → (wr.alloc (.cells #[.int .u8 (c : Int)] 5)).cell? ((⟨wr.heap.size, 0, none⟩ : Addr).add jj) = some u from rx_row_new wr #[.int .u8 (c : Int)] 5) (by simp [Value.oneCell']) (by unfold maxLen; omega) (by omega) (by simp; omega) ?_)
        rintro v2 w2 hp2 hgr _ _
        have HP2 := Lib.hid (show w2.ownsRow w1.heap.size 5 1 v2 (L ++ encL u).length (u8s (L ++ encL u)) from by rw [HEn.out, u8s_app, List.length_append, HLL.out]; simpa [u8s, hu2] using hp2)
        have hq2 := rx_own_grown (hq.alloc (.cells #[.int .u8 (c : Int)] 5)) hgr (rx_own_ne (hq.alloc (.cells #[.int .u8 (c : Int)] 5)) (hp.alloc (.cells #[.int .u8 (c : Int)] 5)) (by decide))
        have hb2 := (hB.alloc hB.size (.cells #[.int .u8 (c : Int)] 5)).grown hgr (by simp; have := hB.size; omega) (fun r e => (hp.lt r e).1)
        have HB2 := Lib.hid hb2
        have hs2 := hb2.size
        clear hp2 hgr hb2 hp hq hB g0 g1 g2 g3 g4 g5 f0 f1 f2 f3
        have RN := Lib.hid (show ∀ jj u, (chV c)[jj]? = some u → (w2.alloc (.cells #[.int .i64 2, .int .i64 (c : Int), .bool false, .slice none 0 0, .int .i64 0, .int .i64 0, .slice none 0 0] 30)).cell? ((⟨w2.heap.size, 0, none⟩ : Addr).add jj) = some u from rx_row_new w2 #[.int .i64 2, .int .i64 (c : Int), .bool false, .slice none 0 0, .int .i64 0, .int .i64 0, .slice none 0 0] 30)
        go_wp2_with (at_builtin; refine wpList_append_own_at _ rfl _ _ 28 rfl w1.heap.size 30 r0 _ 7 88 Tryd.underlying28 HR.out.1 HR.out.2.1 HR.out.2.2.1 HR.out.2.2.2 rfl (by decide) _ k X rfl (hq2.alloc _) ⟨w2.heap.size, 0, none⟩ 1 1 (chV c) rfl rfl RN.out (by simp [Value.oneCell']) (by unfold maxLen; omega) (by omega) (by simp; omega) ?_)
        rintro v3 w3 hq3 hgr _ _
        have HQ3 := Lib.hid (show w3.ownsRow w1.heap.size 30 7 v3 (k + 1) (X ++ chV c) from by first | exact hq3 | (rw [hk1]; exact hq3))
        have hp3 := rx_own_grown (HP2.out.alloc (.cells #[.int .i64 2, .int .i64 (c : Int), .bool false, .slice none 0 0, .int .i64 0, .int .i64 0, .slice none 0 0] 30)) hgr (rx_own_ne (HP2.out.alloc (.cells #[.int .i64 2, .int .i64 (c : Int), .bool false, .slice none 0 0, .int .i64 0, .int .i64 0, .slice none 0 0] 30)) (hq2.alloc (.cells #[.int .i64 2, .int .i64 (c : Int), .bool false, .slice none 0 0, .int .i64 0, .int .i64 0, .slice none 0 0] 30)) (by decide))
        have HP3 := Lib.hid hp3
        have HB3 := Lib.hid ((HB2.out.alloc hs2 (.cells #[.int .i64 2, .int .i64 (c : Int), .bool false, .slice none 0 0, .int .i64 0, .int .i64 0, .slice none 0 0] 30)).grown hgr (by simp; omega) (fun r e => (hq2.lt r e).1))
        clear hq3 hgr hp3 hq2 HP2 HB2 RN
        go_wp2_with fail
        refine ⟨⟨k1, rfl, by omega, STEP.out v2 v3 w3 HP3.out HQ3.out, HB3.out⟩, ?_⟩
        simp [RowKit.intOf]
        omega
      · have g0 : decide ((48 : Int) ≤ (c : Int)) = true := decide_eq_true (by omega)
        have g1 : decide ((c : Int) ≤ 57) = false := decide_eq_false (by omega)
        have g2 : decide ((97 : Int) ≤ (c : Int)) = false := decide_eq_false (by omega)
        have g3 : decide ((c : Int) ≤ 122) = true := decide_eq_true (by omega)
        have g4 : decide ((65 : Int) ≤ (c : Int)) = false := decide_eq_false (by omega)
        have g5 : decide ((c : Int) ≤ 90) = true := decide_eq_true (by omega)
        have f0 : ((c : Int) == 60) = false := beq_eq_false_iff_ne.2 (by omega)
        have f1 : ((c : Int) == 62) = true := beq_iff_eq.2 (by omega)
        have f2 : ((c : Int) == 39) = false := beq_eq_false_iff_ne.2 (by omega)
        have f3 : ((c : Int) == 96) = false := beq_eq_false_iff_ne.2 (by omega)
        have HEn := Lib.hid (show encL u = [u] from by rw [encL, if_pos (by rw [hu2]; unfold litQ alnF; simp only [decide_eq_true_eq]; omega)])
        clear hcl
        go_wp2_with (at_builtin; refine wpList_append_own_at _ rfl _ _ 37 rfl w1.heap.size 5 i0 _ 1 1 Tryd.underlying37 HI.out.1 HI.out.2.1 HI.out.2.2.1 HI.out.2.2.2 rfl (by decide) _ m (u8s L) rfl (hp.alloc _) ⟨wr.heap.size, 0, none⟩ 1 1 [.int .u8 (c : Int)] rfl rfl (show ∀ jj u, [.int .u8 (c : Int)][jj]? = some u → (wr.alloc (.cells #[.int .u8 (c : Int)] 5)).cell? ((⟨wr.heap.size, 0, none⟩ : Addr).add jj) = some u from rx_row_new wr #[.int .u8 (c : Int)] 5) (by simp [Value.oneCell']) (by unfold maxLen; omega) (by omega) (by simp; omega) ?_)
        rintro v2 w2 hp2 hgr _ _
        have HP2 := Lib.hid (show w2.ownsRow w1.heap.size 5 1 v2 (L ++ encL u).length (u8s (L ++ encL u)) from by rw [HEn.out, u8s_app, List.length_append, HLL.out]; simpa [u8s, hu2] using hp2)
        have hq2 := rx_own_grown (hq.alloc (.cells #[.int .u8 (c : Int)] 5)) hgr (rx_own_ne (hq.alloc (.cells #[.int .u8 (c : Int)] 5)) (hp.alloc (.cells #[.int .u8 (c : Int)] 5)) (by decide))
        have hb2 := (hB.alloc hB.size (.cells #[.int .u8 (c : Int)] 5)).grown hgr (by simp; have := hB.size; omega) (fun r e => (hp.lt r e).1)
        have HB2 := Lib.hid hb2
        have hs2 := hb2.size
        clear hp2 hgr hb2 hp hq hB g0 g1 g2 g3 g4 g5 f0 f1 f2 f3
        have RN := Lib.hid (show ∀ jj u, (chV c)[jj]? = some u → (w2.alloc (.cells #[.int .i64 2, .int .i64 (c : Int), .bool false, .slice none 0 0, .int .i64 0, .int .i64 0, .slice none 0 0] 30)).cell? ((⟨w2.heap.size, 0, none⟩ : Addr).add jj) = some u from rx_row_new w2 #[.int .i64 2, .int .i64 (c : Int), .bool false, .slice none 0 0, .int .i64 0, .int .i64 0, .slice none 0 0] 30)
        go_wp2_with (at_builtin; refine wpList_append_own_at _ rfl _ _ 28 rfl w1.heap.size 30 r0 _ 7 88 Tryd.underlying28 HR.out.1 HR.out.2.1 HR.out.2.2.1 HR.out.2.2.2 rfl (by decide) _ k X rfl (hq2.alloc _) ⟨w2.heap.size, 0, none⟩ 1 1 (chV c) rfl rfl RN.out (by simp [Value.oneCell']) (by unfold maxLen; omega) (by omega) (by simp; omega) ?_)
        rintro v3 w3 hq3 hgr _ _
        have HQ3 := Lib.hid (show w3.ownsRow w1.heap.size 30 7 v3 (k + 1) (X ++ chV c) from by first | exact hq3 | (rw [hk1]; exact hq3))
        have hp3 := rx_own_grown (HP2.out.alloc (.cells #[.int .i64 2, .int .i64 (c : Int), .bool false, .slice none 0 0, .int .i64 0, .int .i64 0, .slice none 0 0] 30)) hgr (rx_own_ne (HP2.out.alloc (.cells #[.int .i64 2, .int .i64 (c : Int), .bool false, .slice none 0 0, .int .i64 0, .int .i64 0, .slice none 0 0] 30)) (hq2.alloc (.cells #[.int .i64 2, .int .i64 (c : Int), .bool false, .slice none 0 0, .int .i64 0, .int .i64 0, .slice none 0 0] 30)) (by decide))
        have HP3 := Lib.hid hp3
        have HB3 := Lib.hid ((HB2.out.alloc hs2 (.cells #[.int .i64 2, .int .i64 (c : Int), .bool false, .slice none 0 0, .int .i64 0, .int .i64 0, .slice none 0 0] 30)).grown hgr (by simp; omega) (fun r e => (hq2.lt r e).1))
        clear hq3 hgr hp3 hq2 HP2 HB2 RN
        go_wp2_with fail
        refine ⟨⟨k1, rfl, by omega, STEP.out v2 v3 w3 HP3.out HQ3.out, HB3.out⟩, ?_⟩
        simp [RowKit.intOf]
        omega
      · have g0 : decide ((48 : Int) ≤ (c : Int)) = false := decide_eq_false (by omega)
        have g1 : decide ((c : Int) ≤ 57) = true := decide_eq_true (by omega)
        have g2 : decide ((97 : Int) ≤ (c : Int)) = false := decide_eq_false (by omega)
        have g3 : decide ((c : Int) ≤ 122) = true := decide_eq_true (by omega)
        have g4 : decide ((65 : Int) ≤ (c : Int)) = false := decide_eq_false (by omega)
        have g5 : decide ((c : Int) ≤ 90) = true := decide_eq_true (by omega)
        have f0 : ((c : Int) == 60) = false := beq_eq_false_iff_ne.2 (by omega)
        have f1 : ((c : Int) == 62) = false := beq_eq_false_iff_ne.2 (by omega)
        have f2 : ((c : Int) == 39) = true := beq_iff_eq.2 (by omega)
        have f3 : ((c : Int) == 96) = false := beq_eq_false_iff_ne.2 (by omega)
        have HEn := Lib.hid (show encL u = [u] from by rw [encL, if_pos (by rw [hu2]; unfold litQ alnF; simp only [decide_eq_true_eq]; omega)])
        clear hcl
        go_wp2_with (at_builtin; refine wpList_append_own_at _ rfl _ _ 37 rfl w1.heap.size 5 i0 _ 1 1 Tryd.underlying37 HI.out.1 HI.out.2.1 HI.out.2.2.1 HI.out.2.2.2 rfl (by decide) _ m (u8s L) rfl (hp.alloc _) ⟨wr.heap.size, 0, none⟩ 1 1 [.int .u8 (c : Int)] rfl rfl (show ∀ jj u, [.int .u8 (c : Int)][jj]? = some u → (wr.alloc (.cells #[.int .u8 (c : Int)] 5)).cell? ((⟨wr.heap.size, 0, none⟩ : Addr).add jj) = some u from rx_row_new wr #[.int .u8 (c : Int)] 5) (by simp [Value.oneCell']) (by unfold maxLen; omega) (by omega) (by simp; omega) ?_)
        rintro v2 w2 hp2 hgr _ _
        have HP2 := Lib.hid (show w2.ownsRow w1.heap.size 5 1 v2 (L ++ encL u).length (u8s (L ++ encL u)) from by rw [HEn.out, u8s_app, List.length_append, HLL.out]; simpa [u8s, hu2] using hp2)
        have hq2 := rx_own_grown (hq.alloc (.cells #[.int .u8 (c : Int)] 5)) hgr (rx_own_ne (hq.alloc (.cells #[.int .u8 (c : Int)] 5)) (hp.alloc (.cells #[.int .u8 (c : Int)] 5)) (by decide))
        have hb2 := (hB.alloc hB.size (.cells #[.int .u8 (c : Int)] 5)).grown hgr (by simp; have := hB.size; omega) (fun r e => (hp.lt r e).1)
        have HB2 := Lib.hid hb2
        have hs2 := hb2.size
        clear hp2 hgr hb2 hp hq hB g0 g1 g2 g3 g4 g5 f0 f1 f2 f3
        have RN := Lib.hid (show ∀ jj u, (chV c)[jj]? = some u → (w2.alloc (.cells #[.int .i64 2, .int .i64 (c : Int), .bool false, .slice none 0 0, .int .i64 0, .int .i64 0, .slice none 0 0] 30)).cell? ((⟨w2.heap.size, 0, none⟩ : Addr).add jj) = some u from rx_row_new w2 #[.int .i64 2, .int .i64 (c : Int), .bool false, .slice none 0 0, .int .i64 0, .int .i64 0, .slice none 0 0] 30)
        go_wp2_with (at_builtin; refine wpList_append_own_at _ rfl _ _ 28 rfl w1.heap.size 30 r0 _ 7 88 Tryd.underlying28 HR.out.1 HR.out.2.1 HR.out.2.2.1 HR.out.2.2.2 rfl (by decide) _ k X rfl (hq2.alloc _) ⟨w2.heap.size, 0, none⟩ 1 1 (chV c) rfl rfl RN.out (by simp [Value.oneCell']) (by unfold maxLen; omega) (by omega) (by simp; omega) ?_)
        rintro v3 w3 hq3 hgr _ _
        have HQ3 := Lib.hid (show w3.ownsRow w1.heap.size 30 7 v3 (k + 1) (X ++ chV c) from by first | exact hq3 | (rw [hk1]; exact hq3))
        have hp3 := rx_own_grown (HP2.out.alloc (.cells #[.int .i64 2, .int .i64 (c : Int), .bool false, .slice none 0 0, .int .i64 0, .int .i64 0, .slice none 0 0] 30)) hgr (rx_own_ne (HP2.out.alloc (.cells #[.int .i64 2, .int .i64 (c : Int), .bool false, .slice none 0 0, .int .i64 0, .int .i64 0, .slice none 0 0] 30)) (hq2.alloc (.cells #[.int .i64 2, .int .i64 (c : Int), .bool false, .slice none 0 0, .int .i64 0, .int .i64 0, .slice none 0 0] 30)) (by decide))
        have HP3 := Lib.hid hp3
        have HB3 := Lib.hid ((HB2.out.alloc hs2 (.cells #[.int .i64 2, .int .i64 (c : Int), .bool false, .slice none 0 0, .int .i64 0, .int .i64 0, .slice none 0 0] 30)).grown hgr (by simp; omega) (fun r e => (hq2.lt r e).1))
        clear hq3 hgr hp3 hq2 HP2 HB2 RN
        go_wp2_with fail
        refine ⟨⟨k1, rfl, by omega, STEP.out v2 v3 w3 HP3.out HQ3.out, HB3.out⟩, ?_⟩
        simp [RowKit.intOf]
        omega
      · have g0 : decide ((48 : Int) ≤ (c : Int)) = true := decide_eq_true (by omega)
        have g1 : decide ((c : Int) ≤ 57) = false := decide_eq_false (by omega)
        have g2 : decide ((97 : Int) ≤ (c : Int)) = false := decide_eq_false (by omega)
        have g3 : decide ((c : Int) ≤ 122) = true := decide_eq_true (by omega)
        have g4 : decide ((65 : Int) ≤ (c : Int)) = true := decide_eq_true (by omega)
        have g5 : decide ((c : Int) ≤ 90) = false := decide_eq_false (by omega)
        have f0 : ((c : Int) == 60) = false := beq_eq_false_iff_ne.2 (by omega)
        have f1 : ((c : Int) == 62) = false := beq_eq_false_iff_ne.2 (by omega)
        have f2 : ((c : Int) == 39) = false := beq_eq_false_iff_ne.2 (by omega)
        have f3 : ((c : Int) == 96) = true := beq_iff_eq.2 (by omega)
        have HEn := Lib.hid (show encL u = [u] from by rw [encL, if_pos (by rw [hu2]; unfold litQ alnF; simp only [decide_eq_true_eq]; omega)])
        clear hcl
        go_wp2_with (at_builtin; refine wpList_append_own_at _ rfl _ _ 37 rfl w1.heap.size 5 i0 _ 1 1 Tryd.underlying37 HI.out.1 HI.out.2.1 HI.out.2.2.1 HI.out.2.2.2 rfl (by decide) _ m (u8s L) rfl (hp.alloc _) ⟨wr.heap.size, 0, none⟩ 1 1 [.int .u8 (c : Int)] rfl rfl (show ∀ jj u, [.int .u8 (c : Int)][jj]? = some u → (wr.alloc (.cells #[.int .u8 (c : Int)] 5)).cell? ((⟨wr.heap.size, 0, none⟩ : Addr).add jj) = some u from rx_row_new wr #[.int .u8 (c : Int)] 5) (by simp [Value.oneCell']) (by unfold maxLen; omega) (by omega) (by simp; omega) ?_)
        rintro v2 w2 hp2 hgr _ _
        have HP2 := Lib.hid (show w2.ownsRow w1.heap.size 5 1 v2 (L ++ encL u).length (u8s (L ++ encL u)) from by rw [HEn.out, u8s_app, List.length_append, HLL.out]; simpa [u8s, hu2] using hp2)
        have hq2 := rx_own_grown (hq.alloc (.cells #[.int .u8 (c : Int)] 5)) hgr (rx_own_ne (hq.alloc (.cells #[.int .u8 (c : Int)] 5)) (hp.alloc (.cells #[.int .u8 (c : Int)] 5)) (by decide))
        have hb2 := (hB.alloc hB.size (.cells #[.int .u8 (c : Int)] 5)).grown hgr (by simp; have := hB.size; omega) (fun r e => (hp.lt r e).1)
        have HB2 := Lib.hid hb2
        have hs2 := hb2.size
        clear hp2 hgr hb2 hp hq hB g0 g1 g2 g3 g4 g5 f0 f1 f2 f3
        have RN := Lib.hid (show ∀ jj u, (chV c)[jj]? = some u → (w2.alloc (.cells #[.int .i64 2, .int .i64 (c : Int), .bool false, .slice none 0 0, .int .i64 0, .int .i64 0, .slice none 0 0] 30)).cell? ((⟨w2.heap.size, 0, none⟩ : Addr).add jj) = some u from rx_row_new w2 #[.int .i64 2, .int .i64 (c : Int), .bool false, .slice none 0 0, .int .i64 0, .int .i64 0, .slice none 0 0] 30)
        go_wp2_with (at_builtin; refine wpList_append_own_at _ rfl _ _ 28 rfl w1.heap.size 30 r0 _ 7 88 Tryd.underlying28 HR.out.1 HR.out.2.1 HR.out.2.2.1 HR.out.2.2.2 rfl (by decide) _ k X rfl (hq2.alloc _) ⟨w2.heap.size, 0, none⟩ 1 1 (chV c) rfl rfl RN.out (by simp [Value.oneCell']) (by unfold maxLen; omega) (by omega) (by simp; omega) ?_)
        rintro v3 w3 hq3 hgr _ _
        have HQ3 := Lib.hid (show w3.ownsRow w1.heap.size 30 7 v3 (k + 1) (X ++ chV c) from by first | exact hq3 | (rw [hk1]; exact hq3))
        have hp3 := rx_own_grown (HP2.out.alloc (.cells #[.int .i64 2, .int .i64 (c : Int), .bool false, .slice none 0 0, .int .i64 0, .int .i64 0, .slice none 0 0] 30)) hgr (rx_own_ne (HP2.out.alloc (.cells #[.int .i64 2, .int .i64 (c : Int), .bool false, .slice none 0 0, .int .i64 0, .int .i64 0, .slice none 0 0] 30)) (hq2.alloc (.cells #[.int .i64 2, .int .i64 (c : Int), .bool false, .slice none 0 0, .int .i64 0, .int .i64 0, .slice none 0 0] 30)) (by decide))
        have HP3 := Lib.hid hp3
        have HB3 := Lib.hid ((HB2.out.alloc hs2 (.cells #[.int .i64 2, .int .i64 (c : Int), .bool false, .slice none 0 0, .int .i64 0, .int .i64 0, .slice none 0 0] 30)).grown hgr (by simp; omega) (fun r e => (hq2.lt r e).1))
        clear hq3 hgr hp3 hq2 HP2 HB2 RN
        go_wp2_with fail
        refine ⟨⟨k1, rfl, by omega, STEP.out v2 v3 w3 HP3.out HQ3.out, HB3.out⟩, ?_⟩
        simp [RowKit.intOf]
        omega
      · have g0 : decide ((48 : Int) ≤ (c : Int)) = true := decide_eq_true (by omega)
        have g1 : decide ((c : Int) ≤ 57) = true := decide_eq_true (by omega)
        have g2 : decide ((97 : Int) ≤ (c : Int)) = false := decide_eq_false (by omega)
        have g3 : decide ((c : Int) ≤ 122) = true := decide_eq_true (by omega)
        have g4 : decide ((65 : Int) ≤ (c : Int)) = false := decide_eq_false (by omega)
        have g5 : decide ((c : Int) ≤ 90) = true := decide_eq_true (by omega)
        have f0 : ((c : Int) == 60) = false := beq_eq_false_iff_ne.2 (by omega)
        have f1 : ((c : Int) == 62) = false := beq_eq_false_iff_ne.2 (by omega)
        have f2 : ((c : Int) == 39) = false := beq_eq_false_iff_ne.2 (by omega)
        have f3 : ((c : Int) == 96) = false := beq_eq_false_iff_ne.2 (by omega)
        have HEn := Lib.hid (show encL u = [u] from by rw [encL, if_pos (by rw [hu2]; unfold litQ alnF; simp only [decide_eq_true_eq]; omega)])
        clear hcl
        go_wp2_with (at_builtin; refine wpList_append_own_at _ rfl _ _ 37 rfl w1.heap.size 5 i0 _ 1 1 Tryd.underlying37 HI.out.1 HI.out.2.1 HI.out.2.2.1 HI.out.2.2.2 rfl (by decide) _ m (u8s L) rfl (hp.alloc _) ⟨wr.heap.size, 0, none⟩ 1 1 [.int .u8 (c : Int)] rfl rfl (show ∀ jj u, [.int .u8 (c : Int)][jj]? = some u → (wr.alloc (.cells #[.int .u8 (c : Int)] 5)).cell? ((⟨wr.heap.size, 0, none⟩ : Addr).add jj) = some u from rx_row_new wr #[.int .u8 (c : Int)] 5) (by simp [Value.oneCell']) (by unfold maxLen; omega) (by omega) (by simp; omega) ?_)
        rintro v2 w2 hp2 hgr _ _
        have HP2 := Lib.hid (show w2.ownsRow w1.heap.size 5 1 v2 (L ++ encL u).length (u8s (L ++ encL u)) from by rw [HEn.out, u8s_app, List.length_append, HLL.out]; simpa [u8s, hu2] using hp2)
        have hq2 := rx_own_grown (hq.alloc (.cells #[.int .u8 (c : Int)] 5)) hgr (rx_own_ne (hq.alloc (.cells #[.int .u8 (c : Int)] 5)) (hp.alloc (.cells #[.int .u8 (c : Int)] 5)) (by decide))
        have hb2 := (hB.alloc hB.size (.cells #[.int .u8 (c : Int)] 5)).grown hgr (by simp; have := hB.size; omega) (fun r e => (hp.lt r e).1)
        have HB2 := Lib.hid hb2
        have hs2 := hb2.size
        clear hp2 hgr hb2 hp hq hB g0 g1 g2 g3 g4 g5 f0 f1 f2 f3
        have RN := Lib.hid (show ∀ jj u, (chV c)[jj]? = some u → (w2.alloc (.cells #[.int .i64 2, .int .i64 (c : Int), .bool false, .slice none 0 0, .int .i64 0, .int .i64 0, .slice none 0 0] 30)).cell? ((⟨w2.heap.size, 0, none⟩ : Addr).add jj) = some u from rx_row_new w2 #[.int .i64 2, .int .i64 (c : Int), .bool false, .slice none 0 0, .int .i64 0, .int .i64 0, .slice none 0 0] 30)
        go_wp2_with (at_builtin; refine wpList_append_own_at _ rfl _ _ 28 rfl w1.heap.size 30 r0 _ 7 88 Tryd.underlying28 HR.out.1 HR.out.2.1 HR.out.2.2.1 HR.out.2.2.2 rfl (by decide) _ k X rfl (hq2.alloc _) ⟨w2.heap.size, 0, none⟩ 1 1 (chV c) rfl rfl RN.out (by simp [Value.oneCell']) (by unfold maxLen; omega) (by omega) (by simp; omega) ?_)
        rintro v3 w3 hq3 hgr _ _
        have HQ3 := Lib.hid (show w3.ownsRow w1.heap.size 30 7 v3 (k + 1) (X ++ chV c) from by first | exact hq3 | (rw [hk1]; exact hq3))
        have hp3 := rx_own_grown (HP2.out.alloc (.cells #[.int .i64 2, .int .i64 (c : Int), .bool false, .slice none 0 0, .int .i64 0, .int .i64 0, .slice none 0 0] 30)) hgr (rx_own_ne (HP2.out.alloc (.cells #[.int .i64 2, .int .i64 (c : Int), .bool false, .slice none 0 0, .int .i64 0, .int .i64 0, .slice none 0 0] 30)) (hq2.alloc (.cells #[.int .i64 2, .int .i64 (c : Int), .bool false, .slice none 0 0, .int .i64 0, .int .i64 0, .slice none 0 0] 30)) (by decide))
        have HP3 := Lib.hid hp3
        have HB3 := Lib.hid ((HB2.out.alloc hs2 (.cells #[.int .i64 2, .int .i64 (c : Int), .bool false, .slice none 0 0, .int .i64 0, .int .i64 0, .slice none 0 0] 30)).grown hgr (by simp; omega) (fun r e => (hq2.lt r e).1))
        clear hq3 hgr hp3 hq2 HP2 HB2 RN
        go_wp2_with fail
        refine ⟨⟨k1, rfl, by omega, STEP.out v2 v3 w3 HP3.out HQ3.out, HB3.out⟩, ?_⟩
        simp [RowKit.intOf]
        omega
      · have g0 : decide ((48 : Int) ≤ (c : Int)) = true := decide_eq_true (by omega)
        have g1 : decide ((c : Int) ≤ 57) = false := decide_eq_false (by omega)
        have g2 : decide ((97 : Int) ≤ (c : Int)) = false := decide_eq_false (by omega)
        have g3 : decide ((c : Int) ≤ 122) = true := decide_eq_true (by omega)
        have g4 : decide ((65 : Int) ≤ (c : Int)) = true := decide_eq_true (by omega)
        have g5 : decide ((c : Int) ≤ 90) = true := decide_eq_true (by omega)
        have f0 : ((c : Int) == 60) = false := beq_eq_false_iff_ne.2 (by omega)
        have f1 : ((c : Int) == 62) = false := beq_eq_false_iff_ne.2 (by omega)
        have f2 : ((c : Int) == 39) = false := beq_eq_false_iff_ne.2 (by omega)
        have f3 : ((c : Int) == 96) = false := beq_eq_false_iff_ne.2 (by omega)
        have HEn := Lib.hid (show encL u = [u] from by rw [encL, if_pos (by rw [hu2]; unfold litQ alnF; simp only [decide_eq_true_eq]; omega)])
        clear hcl
        go_wp2_with (at_builtin; refine wpList_append_own_at _ rfl _ _ 37 rfl w1.heap.size 5 i0 _ 1 1 Tryd.underlying37 HI.out.1 HI.out.2.1 HI.out.2.2.1 HI.out.2.2.2 rfl (by decide) _ m (u8s L) rfl (hp.alloc _) ⟨wr.heap.size, 0, none⟩ 1 1 [.int .u8 (c : Int)] rfl rfl (show ∀ jj u, [.int .u8 (c : Int)][jj]? = some u → (wr.alloc (.cells #[.int .u8 (c : Int)] 5)).cell? ((⟨wr.heap.size, 0, none⟩ : Addr).add jj) = some u from rx_row_new wr #[.int .u8 (c : Int)] 5) (by simp [Value.oneCell']) (by unfold maxLen; omega) (by omega) (by simp; omega) ?_)
        rintro v2 w2 hp2 hgr _ _
        have HP2 := Lib.hid (show w2.ownsRow w1.heap.size 5 1 v2 (L ++ encL u).length (u8s (L ++ encL u)) from by rw [HEn.out, u8s_app, List.length_append, HLL.out]; simpa [u8s, hu2] using hp2)
        have hq2 := rx_own_grown (hq.alloc (.cells #[.int .u8 (c : Int)] 5)) hgr (rx_own_ne (hq.alloc (.cells #[.int .u8 (c : Int)] 5)) (hp.alloc (.cells #[.int .u8 (c : Int)] 5)) (by decide))
        have hb2 := (hB.alloc hB.size (.cells #[.int .u8 (c : Int)] 5)).grown hgr (by simp; have := hB.size; omega) (fun r e => (hp.lt r e).1)
        have HB2 := Lib.hid hb2
        have hs2 := hb2.size
        clear hp2 hgr hb2 hp hq hB g0 g1 g2 g3 g4 g5 f0 f1 f2 f3
        have RN := Lib.hid (show ∀ jj u, (chV c)[jj]? = some u → (w2.alloc (.cells #[.int .i64 2, .int .i64 (c : Int), .bool false, .slice none 0 0, .int .i64 0, .int .i64 0, .slice none 0 0] 30)).cell? ((⟨w2.heap.size, 0, none⟩ : Addr).add jj) = some u from rx_row_new w2 #[.int .i64 2, .int .i64 (c : Int), .bool false, .slice none 0 0, .int .i64 0, .int .i64 0, .slice none 0 0] 30)
        go_wp2_with (at_builtin; refine wpList_append_own_at _ rfl _ _ 28 rfl w1.heap.size 30 r0 _ 7 88 Tryd.underlying28 HR.out.1 HR.out.2.1 HR.out.2.2.1 HR.out.2.2.2 rfl (by decide) _ k X rfl (hq2.alloc _) ⟨w2.heap.size, 0, none⟩ 1 1 (chV c) rfl rfl RN.out (by simp [Value.oneCell']) (by unfold maxLen; omega) (by omega) (by simp; omega) ?_)
        rintro v3 w3 hq3 hgr _ _
        have HQ3 := Lib.hid (show w3.ownsRow w1.heap.size 30 7 v3 (k + 1) (X ++ chV c) from by first | exact hq3 | (rw [hk1]; exact hq3))
        have hp3 := rx_own_grown (HP2.out.alloc (.cells #[.int .i64 2, .int .i64 (c : Int), .bool false, .slice none 0 0, .int .i64 0, .int .i64 0, .slice none 0 0] 30)) hgr (rx_own_ne (HP2.out.alloc (.cells #[.int .i64 2, .int .i64 (c : Int), .bool false, .slice none 0 0, .int .i64 0, .int .i64 0, .slice none 0 0] 30)) (hq2.alloc (.cells #[.int .i64 2, .int .i64 (c : Int), .bool false, .slice none 0 0, .int .i64 0, .int .i64 0, .slice none 0 0] 30)) (by decide))
        have HP3 := Lib.hid hp3
        have HB3 := Lib.hid ((HB2.out.alloc hs2 (.cells #[.int .i64 2, .int .i64 (c : Int), .bool false, .slice none 0 0, .int .i64 0, .int .i64 0, .slice none 0 0] 30)).grown hgr (by simp; omega) (fun r e => (hq2.lt r e).1))
        clear hq3 hgr hp3 hq2 HP2 HB2 RN
        go_wp2_with fail
        refine ⟨⟨k1, rfl, by omega, STEP.out v2 v3 w3 HP3.out HQ3.out, HB3.out⟩, ?_⟩
        simp [RowKit.intOf]
        omega
      · have g0 : decide ((48 : Int) ≤ (c : Int)) = true := decide_eq_true (by omega)
        have g1 : decide ((c : Int) ≤ 57) = false := decide_eq_false (by omega)
        have g2 : decide ((97 : Int) ≤ (c : Int)) = true := decide_eq_true (by omega)
        have g3 : decide ((c : Int) ≤ 122) = true := decide_eq_true (by omega)
        have g4 : decide ((65 : Int) ≤ (c : Int)) = true := decide_eq_true (by omega)
        have g5 : decide ((c : Int) ≤ 90) = false := decide_eq_false (by omega)
        have f0 : ((c : Int) == 60) = false := beq_eq_false_iff_ne.2 (by omega)
        have f1 : ((c : Int) == 62) = false := beq_eq_false_iff_ne.2 (by omega)
        have f2 : ((c : Int) == 39) = false := beq_eq_false_iff_ne.2 (by omega)
        have f3 : ((c : Int) == 96) = false := beq_eq_false_iff_ne.2 (by omega)
        have HEn := Lib.hid (show encL u = [u] from by rw [encL, if_pos (by rw [hu2]; unfold litQ alnF; simp only [decide_eq_true_eq]; omega)])
        clear hcl
        go_wp2_with (at_builtin; refine wpList_append_own_at _ rfl _ _ 37 rfl w1.heap.size 5 i0 _ 1 1 Tryd.underlying37 HI.out.1 HI.out.2.1 HI.out.2.2.1 HI.out.2.2.2 rfl (by decide) _ m (u8s L) rfl (hp.alloc _) ⟨wr.heap.size, 0, none⟩ 1 1 [.int .u8 (c : Int)] rfl rfl (show ∀ jj u, [.int .u8 (c : Int)][jj]? = some u → (wr.alloc (.cells #[.int .u8 (c : Int)] 5)).cell? ((⟨wr.heap.size, 0, none⟩ : Addr).add jj) = some u from rx_row_new wr #[.int .u8 (c : Int)] 5) (by simp [Value.oneCell']) (by unfold maxLen; omega) (by omega) (by simp; omega) ?_)
        rintro v2 w2 hp2 hgr _ _
        have HP2 := Lib.hid (show w2.ownsRow w1.heap.size 5 1 v2 (L ++ encL u).length (u8s (L ++ encL u)) from by rw [HEn.out, u8s_app, List.length_append, HLL.out]; simpa [u8s, hu2] using hp2)
        have hq2 := rx_own_grown (hq.alloc (.cells #[.int .u8 (c : Int)] 5)) hgr (rx_own_ne (hq.alloc (.cells #[.int .u8 (c : Int)] 5)) (hp.alloc (.cells #[.int .u8 (c : Int)] 5)) (by decide))
        have hb2 := (hB.alloc hB.size (.cells #[.int .u8 (c : Int)] 5)).grown hgr (by simp; have := hB.size; omega) (fun r e => (hp.lt r e).1)
        have HB2 := Lib.hid hb2
        have hs2 := hb2.size
        clear hp2 hgr hb2 hp hq hB g0 g1 g2 g3 g4 g5 f0 f1 f2 f3
        have RN := Lib.hid (show ∀ jj u, (chV c)[jj]? = some u → (w2.alloc (.cells #[.int .i64 2, .int .i64 (c : Int), .bool false, .slice none 0 0, .int .i64 0, .int .i64 0, .slice none 0 0] 30)).cell? ((⟨w2.heap.size, 0, none⟩ : Addr).add jj) = some u from rx_row_new w2 #[.int .i64 2, .int .i64 (c : Int), .bool false, .slice none 0 0, .int .i64 0, .int .i64 0, .slice none 0 0] 30)
        go_wp2_with (at_builtin; refine wpList_append_own_at _ rfl _ _ 28 rfl w1.heap.size 30 r0 _ 7 88 Tryd.underlying28 HR.out.1 HR.out.2.1 HR.out.2.2.1 HR.out.2.2.2 rfl (by decide) _ k X rfl (hq2.alloc _) ⟨w2.heap.size, 0, none⟩ 1 1 (chV c) rfl rfl RN.out (by simp [Value.oneCell']) (by unfold maxLen; omega) (by omega) (by simp; omega) ?_)
        rintro v3 w3 hq3 hgr _ _
        have HQ3 := Lib.hid (show w3.ownsRow w1.heap.size 30 7 v3 (k + 1) (X ++ chV c) from by first | exact hq3 | (rw [hk1]; exact hq3))
        have hp3 := rx_own_grown (HP2.out.alloc (.cells #[.int .i64 2, .int .i64 (c : Int), .bool false, .slice none 0 0, .int .i64 0, .int .i64 0, .slice none 0 0] 30)) hgr (rx_own_ne (HP2.out.alloc (.cells #[.int .i64 2, .int .i64 (c : Int), .bool false, .slice none 0 0, .int .i64 0, .int .i64 0, .slice none 0 0] 30)) (hq2.alloc (.cells #[.int .i64 2, .int .i64 (c : Int), .bool false, .slice none 0 0, .int .i64 0, .int .i64 0, .slice none 0 0] 30)) (by decide))
        have HP3 := Lib.hid hp3
        have HB3 := Lib.hid ((HB2.out.alloc hs2 (.cells #[.int .i64 2, .int .i64 (c : Int), .bool false, .slice none 0 0, .int .i64 0, .int .i64 0, .slice none 0 0] 30)).grown hgr (by simp; omega) (fun r e => (hq2.lt r e).1))
        clear hq3 hgr hp3 hq2 HP2 HB2 RN
        go_wp2_with fail
        refine ⟨⟨k1, rfl, by omega, STEP.out v2 v3 w3 HP3.out HQ3.out, HB3.out⟩, ?_⟩
        simp [RowKit.intOf]
        omega
      · have g0 : decide ((48 : Int) ≤ (c : Int)) = false := decide_eq_false (by omega)
        have g1 : decide ((c : Int) ≤ 57) = true := decide_eq_true (by omega)
        have g2 : decide ((97 : Int) ≤ (c : Int)) = false := decide_eq_false (by omega)
        have g3 : decide ((c : Int) ≤ 122) = true := decide_eq_true (by omega)
        have g4 : decide ((65 : Int) ≤ (c : Int)) = false := decide_eq_false (by omega)
        have g5 : decide ((c : Int) ≤ 90) = true := decide_eq_true (by omega)
        have f0 : ((c : Int) == 60) = false := beq_eq_false_iff_ne.2 (by omega)
        have f1 : ((c : Int) == 62) = false := beq_eq_false_iff_ne.2 (by omega)
        have f2 : ((c : Int) == 39) = false := beq_eq_false_iff_ne.2 (by omega)
        have f3 : ((c : Int) == 96) = false := beq_eq_false_iff_ne.2 (by omega)
        have HEn := Lib.hid (show encL u = [92, u] from by rw [encL, if_neg (by rw [hu2]; unfold litQ alnF; simp only [decide_eq_true_eq]; omega)])
        clear hcl
        go_wp2_with (at_builtin; refine wpList_append_own_at _ rfl _ _ 37 rfl w1.heap.size 5 i0 _ 1 1 Tryd.underlying37 HI.out.1 HI.out.2.1 HI.out.2.2.1 HI.out.2.2.2 rfl (by decide) _ m (u8s L) rfl (hp.alloc _) ⟨wr.heap.size, 0, none⟩ 2 2 [.int .u8 92, .int .u8 (c : Int)] rfl rfl (show ∀ jj u, [.int .u8 92, .int .u8 (c : Int)][jj]? = some u → (wr.alloc (.cells #[.int .u8 92, .int .u8 (c : Int)] 5)).cell? ((⟨wr.heap.size, 0, none⟩ : Addr).add jj) = some u from rx_row_new wr #[.int .u8 92, .int .u8 (c : Int)] 5) (by simp [Value.oneCell']) (by unfold maxLen; omega) (by omega) (by simp; omega) ?_)
        rintro v2 w2 hp2 hgr _ _
        have HP2 := Lib.hid (show w2.ownsRow w1.heap.size 5 1 v2 (L ++ encL u).length (u8s (L ++ encL u)) from by rw [HEn.out, u8s_app, List.length_append, HLL.out]; simpa [u8s, hu2] using hp2)
        have hq2 := rx_own_grown (hq.alloc (.cells #[.int .u8 92, .int .u8 (c : Int)] 5)) hgr (rx_own_ne (hq.alloc (.cells #[.int .u8 92, .int .u8 (c : Int)] 5)) (hp.alloc (.cells #[.int .u8 92, .int .u8 (c : Int)] 5)) (by decide))
        have hb2 := (hB.alloc hB.size (.cells #[.int .u8 92, .int .u8 (c : Int)] 5)).grown hgr (by simp; have := hB.size; omega) (fun r e => (hp.lt r e).1)
        have HB2 := Lib.hid hb2
        have hs2 := hb2.size
        clear hp2 hgr hb2 hp hq hB g0 g1 g2 g3 g4 g5 f0 f1 f2 f3
        have RN := Lib.hid (show ∀ jj u, (chV c)[jj]? = some u → (w2.alloc (.cells #[.int .i64 2, .int .i64 (c : Int), .bool false, .slice none 0 0, .int .i64 0, .int .i64 0, .slice none 0 0] 30)).cell? ((⟨w2.heap.size, 0, none⟩ : Addr).add jj) = some u from rx_row_new w2 #[.int .i64 2, .int .i64 (c : Int), .bool false, .slice none 0 0, .int .i64 0, .int .i64 0, .slice none 0 0] 30)
        go_wp2_with (at_builtin; refine wpList_append_own_at _ rfl _ _ 28 rfl w1.heap.size 30 r0 _ 7 88 Tryd.underlying28 HR.out.1 HR.out.2.1 HR.out.2.2.1 HR.out.2.2.2 rfl (by decide) _ k X rfl (hq2.alloc _) ⟨w2.heap.size, 0, none⟩ 1 1 (chV c) rfl rfl RN.out (by simp [Value.oneCell']) (by unfold maxLen; omega) (by omega) (by simp; omega) ?_)
        rintro v3 w3 hq3 hgr _ _
        have HQ3 := Lib.hid (show w3.ownsRow w1.heap.size 30 7 v3 (k + 1) (X ++ chV c) from by first | exact hq3 | (rw [hk1]; exact hq3))
        have hp3 := rx_own_grown (HP2.out.alloc (.cells #[.int .i64 2, .int .i64 (c : Int), .bool false, .slice none 0 0, .int .i64 0, .int .i64 0, .slice none 0 0] 30)) hgr (rx_own_ne (HP2.out.alloc (.cells #[.int .i64 2, .int .i64 (c : Int), .bool false, .slice none 0 0, .int .i64 0, .int .i64 0, .slice none 0 0] 30)) (hq2.alloc (.cells #[.int .i64 2, .int .i64 (c : Int), .bool false, .slice none 0 0, .int .i64 0, .int .i64 0, .slice none 0 0] 30)) (by decide))
        have HP3 := Lib.hid hp3
        have HB3 := Lib.hid ((HB2.out.alloc hs2 (.cells #[.int .i64 2, .int .i64 (c : Int), .bool false, .slice none 0 0, .int .i64 0, .int .i64 0, .slice none 0 0] 30)).grown hgr (by simp; omega) (fun r e => (hq2.lt r e).1))
        clear hq3 hgr hp3 hq2 HP2 HB2 RN
        go_wp2_with fail
        refine ⟨⟨k1, rfl, by omega, STEP.out v2 v3 w3 HP3.out HQ3.out, HB3.out⟩, ?_⟩
        simp [RowKit.intOf]
        omega
      · have g0 : decide ((48 : Int) ≤ (c : Int)) = true := decide_eq_true (by omega)
        have g1 : decide ((c : Int) ≤ 57) = false := decide_eq_false (by omega)
        have g2 : decide ((97 : Int) ≤ (c : Int)) = false := decide_eq_false (by omega)
        have g3 : decide ((c : Int) ≤ 122) = true := decide_eq_true (by omega)
        have g4 : decide ((65 : Int) ≤ (c : Int)) = false := decide_eq_false (by omega)
        have g5 : decide ((c : Int) ≤ 90) = true := decide_eq_true (by omega)
        have f0 : ((c : Int) == 60) = false := beq_eq_false_iff_ne.2 (by omega)
        have f1 : ((c : Int) == 62) = false := beq_eq_false_iff_ne.2 (by omega)
        have f2 : ((c : Int) == 39) = false := beq_eq_false_iff_ne.2 (by omega)
        have f3 : ((c : Int) == 96) = false := beq_eq_false_iff_ne.2 (by omega)
        have HEn := Lib.hid (show encL u = [92, u] from by rw [encL, if_neg (by rw [hu2]; unfold litQ alnF; simp only [decide_eq_true_eq]; omega)])
        clear hcl
        go_wp2_with (at_builtin; refine wpList_append_own_at _ rfl _ _ 37 rfl w1.heap.size 5 i0 _ 1 1 Tryd.underlying37 HI.out.1 HI.out.2.1 HI.out.2.2.1 HI.out.2.2.2 rfl (by decide) _ m (u8s L) rfl (hp.alloc _) ⟨wr.heap.size, 0, none⟩ 2 2 [.int .u8 92, .int .u8 (c : Int)] rfl rfl (show ∀ jj u, [.int .u8 92, .int .u8 (c : Int)][jj]? = some u → (wr.alloc (.cells #[.int .u8 92, .int .u8 (c : Int)] 5)).cell? ((⟨wr.heap.size, 0, none⟩ : Addr).add jj) = some u from rx_row_new wr #[.int .u8 92, .int .u8 (c : Int)] 5) (by simp [Value.oneCell']) (by unfold maxLen; omega) (by omega) (by simp; omega) ?_)
        rintro v2 w2 hp2 hgr _ _
        have HP2 := Lib.hid (show w2.ownsRow w1.heap.size 5 1 v2 (L ++ encL u).length (u8s (L ++ encL u)) from by rw [HEn.out, u8s_app, List.length_append, HLL.out]; simpa [u8s, hu2] using hp2)
        have hq2 := rx_own_grown (hq.alloc (.cells #[.int .u8 92, .int .u8 (c : Int)] 5)) hgr (rx_own_ne (hq.alloc (.cells #[.int .u8 92, .int .u8 (c : Int)] 5)) (hp.alloc (.cells #[.int .u8 92, .int .u8 (c : Int)] 5)) (by decide))
        have hb2 := (hB.alloc hB.size (.cells #[.int .u8 92, .int .u8 (c : Int)] 5)).grown hgr (by simp; have := hB.size; omega) (fun r e => (hp.lt r e).1)
        have HB2 := Lib.hid hb2
        have hs2 := hb2.size
        clear hp2 hgr hb2 hp hq hB g0 g1 g2 g3 g4 g5 f0 f1 f2 f3
        have RN := Lib.hid (show ∀ jj u, (chV c)[jj]? = some u → (w2.alloc (.cells #[.int .i64 2, .int .i64 (c : Int), .bool false, .slice none 0 0, .int .i64 0, .int .i64 0, .slice none 0 0] 30)).cell? ((⟨w2.heap.size, 0, none⟩ : Addr).add jj) = some u from rx_row_new w2 #[.int .i64 2, .int .i64 (c : Int), .bool false, .slice none 0 0, .int .i64 0, .int .i64 0, .slice none 0 0] 30)
        go_wp2_with (at_builtin; refine wpList_append_own_at _ rfl _ _ 28 rfl w1.heap.size 30 r0 _ 7 88 Tryd.underlying28 HR.out.1 HR.out.2.1 HR.out.2.2.1 HR.out.2.2.2 rfl (by decide) _ k X rfl (hq2.alloc _) ⟨w2.heap.size, 0, none⟩ 1 1 (chV c) rfl rfl RN.out (by simp [Value.oneCell']) (by unfold maxLen; omega) (by omega) (by simp; omega) ?_)
        rintro v3 w3 hq3 hgr _ _
        have HQ3 := Lib.hid (show w3.ownsRow w1.heap.size 30 7 v3 (k + 1) (X ++ chV c) from by first | exact hq3 | (rw [hk1]; exact hq3))
        have hp3 := rx_own_grown (HP2.out.alloc (.cells #[.int .i64 2, .int .i64 (c : Int), .bool false, .slice none 0 0, .int .i64 0, .int .i64 0, .slice none 0 0] 30)) hgr (rx_own_ne (HP2.out.alloc (.cells #[.int .i64 2, .int .i64 (c : Int), .bool false, .slice none 0 0, .int .i64 0, .int .i64 0, .slice none 0 0] 30)) (hq2.alloc (.cells #[.int .i64 2, .int .i64 (c : Int), .bool false, .slice none 0 0, .int .i64 0, .int .i64 0, .slice none 0 0] 30)) (by decide))
        have HP3 := Lib.hid hp3
        have HB3 := Lib.hid ((HB2.out.alloc hs2 (.cells #[.int .i64 2, .int .i64 (c : Int), .bool false, .slice none 0 0, .int .i64 0, .int .i64 0, .slice none 0 0] 30)).grown hgr (by simp; omega) (fun r e => (hq2.lt r e).1))
        clear hq3 hgr hp3 hq2 HP2 HB2 RN
        go_wp2_with fail
        refine ⟨⟨k1, rfl, by omega, STEP.out v2 v3 w3 HP3.out HQ3.out, HB3.out⟩, ?_⟩
        simp [RowKit.intOf]
        omega
      · have g0 : decide ((48 : Int) ≤ (c : Int)) = true := decide_eq_true (by omega)
        have g1 : decide ((c : Int) ≤ 57) = false := decide_eq_false (by omega)
        have g2 : decide ((97 : Int) ≤ (c : Int)) = false := decide_eq_false (by omega)
        have g3 : decide ((c : Int) ≤ 122) = true := decide_eq_true (by omega)
        have g4 : decide ((65 : Int) ≤ (c : Int)) = true := decide_eq_true (by omega)
        have g5 : decide ((c : Int) ≤ 90) = false := decide_eq_false (by omega)
        have f0 : ((c : Int) == 60) = false := beq_eq_false_iff_ne.2 (by omega)
        have f1 : ((c : Int) == 62) = false := beq_eq_false_iff_ne.2 (by omega)
        have f2 : ((c : Int) == 39) = false := beq_eq_false_iff_ne.2 (by omega)
        have f3 : ((c : Int) == 96) = false := beq_eq_false_iff_ne.2 (by omega)
        have HEn := Lib.hid (show encL u = [92, u] from by rw [encL, if_neg (by rw [hu2]; unfold litQ alnF; simp only [decide_eq_true_eq]; omega)])
        clear hcl
        go_wp2_with (at_builtin; refine wpList_append_own_at _ rfl _ _ 37 rfl w1.heap.size 5 i0 _ 1 1 Tryd.underlying37 HI.out.1 HI.out.2.1 HI.out.2.2.1 HI.out.2.2.2 rfl (by decide) _ m (u8s L) rfl (hp.alloc _) ⟨wr.heap.size, 0, none⟩ 2 2 [.int .u8 92, .int .u8 (c : Int)] rfl rfl (show ∀ jj u, [.int .u8 92, .int .u8 (c : Int)][jj]? = some u → (wr.alloc (.cells #[.int .u8 92, .int .u8 (c : Int)] 5)).cell? ((⟨wr.heap.size, 0, none⟩ : Addr).add jj) = some u from rx_row_new wr #[.int .u8 92, .int .u8 (c : Int)] 5) (by simp [Value.oneCell']) (by unfold maxLen; omega) (by omega) (by simp; omega) ?_)
        rintro v2 w2 hp2 hgr _ _
        have HP2 := Lib.hid (show w2.ownsRow w1.heap.size 5 1 v2 (L ++ encL u).length (u8s (L ++ encL u)) from by rw [HEn.out, u8s_app, List.length_append, HLL.out]; simpa [u8s, hu2] using hp2)
        have hq2 := rx_own_grown (hq.alloc (.cells #[.int .u8 92, .int .u8 (c : Int)] 5)) hgr (rx_own_ne (hq.alloc (.cells #[.int .u8 92, .int .u8 (c : Int)] 5)) (hp.alloc (.cells #[.int .u8 92, .int .u8 (c : Int)] 5)) (by decide))
        have hb2 := (hB.alloc hB.size (.cells #[.int .u8 92, .int .u8 (c : Int)] 5)).grown hgr (by simp; have := hB.size; omega) (fun r e => (hp.lt r e).1)
        have HB2 := Lib.hid hb2
        have hs2 := hb2.size
        clear hp2 hgr hb2 hp hq hB g0 g1 g2 g3 g4 g5 f0 f1 f2 f3
        have RN := Lib.hid (show ∀ jj u, (chV c)[jj]? = some u → (w2.alloc (.cells #[.int .i64 2, .int .i64 (c : Int), .bool false, .slice none 0 0, .int .i64 0, .int .i64 0, .slice none 0 0] 30)).cell? ((⟨w2.heap.size, 0, none⟩ : Addr).add jj) = some u from rx_row_new w2 #[.int .i64 2, .int .i64 (c : Int), .bool false, .slice none 0 0, .int .i64 0, .int .i64 0, .slice none 0 0] 30)
        go_wp2_with (at_builtin; refine wpList_append_own_at _ rfl _ _ 28 rfl w1.heap.size 30 r0 _ 7 88 Tryd.underlying28 HR.out.1 HR.out.2.1 HR.out.2.2.1 HR.out.2.2.2 rfl (by decide) _ k X rfl (hq2.alloc _) ⟨w2.heap.size, 0, none⟩ 1 1 (chV c) rfl rfl RN.out (by simp [Value.oneCell']) (by unfold maxLen; omega) (by omega) (by simp; omega) ?_)
        rintro v3 w3 hq3 hgr _ _
        have HQ3 := Lib.hid (show w3.ownsRow w1.heap.size 30 7 v3 (k + 1) (X ++ chV c) from by first | exact hq3 | (rw [hk1]; exact hq3))
        have hp3 := rx_own_grown (HP2.out.alloc (.cells #[.int .i64 2, .int .i64 (c : Int), .bool false, .slice none 0 0, .int .i64 0, .int .i64 0, .slice none 0 0] 30)) hgr (rx_own_ne (HP2.out.alloc (.cells #[.int .i64 2, .int .i64 (c : Int), .bool false, .slice none 0 0, .int .i64 0, .int .i64 0, .slice none 0 0] 30)) (hq2.alloc (.cells #[.int .i64 2, .int .i64 (c : Int), .bool false, .slice none 0 0, .int .i64 0, .int .i64 0, .slice none 0 0] 30)) (by decide))
        have HP3 := Lib.hid hp3
        have HB3 := Lib.hid ((HB2.out.alloc hs2 (.cells #[.int .i64 2, .int .i64 (c : Int), .bool false, .slice none 0 0, .int .i64 0, .int .i64 0, .slice none 0 0] 30)).grown hgr (by simp; omega) (fun r e => (hq2.lt r e).1))
        clear hq3 hgr hp3 hq2 HP2 HB2 RN
        go_wp2_with fail
        refine ⟨⟨k1, rfl, by omega, STEP.out v2 v3 w3 HP3.out HQ3.out, HB3.out⟩, ?_⟩
        simp [RowKit.intOf]
        omega
      · have g0 : decide ((48 : Int) ≤ (c : Int)) = true := decide_eq_true (by omega)
        have g1 : decide ((c : Int) ≤ 57) = false := decide_eq_false (by omega)
        have g2 : decide ((97 : Int) ≤ (c : Int)) = true := decide_eq_true (by omega)
        have g3 : decide ((c : Int) ≤ 122) = false := decide_eq_false (by omega)
        have g4 : decide ((65 : Int) ≤ (c : Int)) = true := decide_eq_true (by omega)
        have g5 : decide ((c : Int) ≤ 90) = false := decide_eq_false (by omega)
        have f0 : ((c : Int) == 60) = false := beq_eq_false_iff_ne.2 (by omega)
        have f1 : ((c : Int) == 62) = false := beq_eq_false_iff_ne.2 (by omega)
        have f2 : ((c : Int) == 39) = false := beq_eq_false_iff_ne.2 (by omega)
        have f3 : ((c : Int) == 96) = false := beq_eq_false_iff_ne.2 (by omega)
        have HEn := Lib.hid (show encL u = [92, u] from by rw [encL, if_neg (by rw [hu2]; unfold litQ alnF; simp only [decide_eq_true_eq]; omega)])
        clear hcl
        go_wp2_with (at_builtin; refine wpList_append_own_at _ rfl _ _ 37 rfl w1.heap.size 5 i0 _ 1 1 Tryd.underlying37 HI.out.1 HI.out.2.1 HI.out.2.2.1 HI.out.2.2.2 rfl (by decide) _ m (u8s L) rfl (hp.alloc _) ⟨wr.heap.size, 0, none⟩ 2 2 [.int .u8 92, .int .u8 (c : Int)] rfl rfl (show ∀ jj u, [.int .u8 92, .int .u8 (c : Int)][jj]? = some u → (wr.alloc (.cells #[.int .u8 92, .int .u8 (c : Int)] 5)).cell? ((⟨wr.heap.size, 0, none⟩ : Addr).add jj) = some u from rx_row_new wr #[.int .u8 92, .int .u8 (c : Int)] 5) (by simp [Value.oneCell']) (by unfold maxLen; omega) (by omega) (by simp; omega) ?_)
        rintro v2 w2 hp2 hgr _ _
        have HP2 := Lib.hid (show w2.ownsRow w1.heap.size 5 1 v2 (L ++ encL u).length (u8s (L ++ encL u)) from by rw [HEn.out, u8s_app, List.length_append, HLL.out]; simpa [u8s, hu2] using hp2)
        have hq2 := rx_own_grown (hq.alloc (.cells #[.int .u8 92, .int .u8 (c : Int)] 5)) hgr (rx_own_ne (hq.alloc (.cells #[.int .u8 92, .int .u8 (c : Int)] 5)) (hp.alloc (.cells #[.int .u8 92, .int .u8 (c : Int)] 5)) (by decide))
        have hb2 := (hB.alloc hB.size (.cells #[.int .u8 92, .int .u8 (c : Int)] 5)).grown hgr (by simp; have := hB.size; omega) (fun r e => (hp.lt r e).1)
        have HB2 := Lib.hid hb2
        have hs2 := hb2.size
        clear hp2 hgr hb2 hp hq hB g0 g1 g2 g3 g4 g5 f0 f1 f2 f3
        have RN := Lib.hid (show ∀ jj u, (chV c)[jj]? = some u → (w2.alloc (.cells #[.int .i64 2, .int .i64 (c : Int), .bool false, .slice none 0 0, .int .i64 0, .int .i64 0, .slice none 0 0] 30)).cell? ((⟨w2.heap.size, 0, none⟩ : Addr).add jj) = some u from rx_row_new w2 #[.int .i64 2, .int .i64 (c : Int), .bool false, .slice none 0 0, .int .i64 0, .int .i64 0, .slice none 0 0] 30)
        go_wp2_with (at_builtin; refine wpList_append_own_at _ rfl _ _ 28 rfl w1.heap.size 30 r0 _ 7 88 Tryd.underlying28 HR.out.1 HR.out.2.1 HR.out.2.2.1 HR.out.2.2.2 rfl (by decide) _ k X rfl (hq2.alloc _) ⟨w2.heap.size, 0, none⟩ 1 1 (chV c) rfl rfl RN.out (by simp [Value.oneCell']) (by unfold maxLen; omega) (by omega) (by simp; omega) ?_)
        rintro v3 w3 hq3 hgr _ _
        have HQ3 := Lib.hid (show w3.ownsRow w1.heap.size 30 7 v3 (k + 1) (X ++ chV c) from by first | exact hq3 | (rw [hk1]; exact hq3))
        have hp3 := rx_own_grown (HP2.out.alloc (.cells #[.int .i64 2, .int .i64 (c : Int), .bool false, .slice none 0 0, .int .i64 0, .int .i64 0, .slice none 0 0] 30)) hgr (rx_own_ne (HP2.out.alloc (.cells #[.int .i64 2, .int .i64 (c : Int), .bool false, .slice none 0 0, .int .i64 0, .int .i64 0, .slice none 0 0] 30)) (hq2.alloc (.cells #[.int .i64 2, .int .i64 (c : Int), .bool false, .slice none 0 0, .int .i64 0, .int .i64 0, .slice none 0 0] 30)) (by decide))
        have HP3 := Lib.hid hp3
        have HB3 := Lib.hid ((HB2.out.alloc hs2 (.cells #[.int .i64 2, .int .i64 (c : Int), .bool false, .slice none 0 0, .int .i64 0, .int .i64 0, .slice none 0 0] 30)).grown hgr (by simp; omega) (fun r e => (hq2.lt r e).1))
        clear hq3 hgr hp3 hq2 HP2 HB2 RN
        go_wp2_with fail
        refine ⟨⟨k1, rfl, by omega, STEP.out v2 v3 w3 HP3.out HQ3.out, HB3.out⟩, ?_⟩
        simp [RowKit.intOf]
        omega
    · obtain rfl : k = n := by omega
      have hkl : l.length = k := by rw [HLL0.out, HN.out]
      have hlk : l.take k = l := List.take_of_length_le (by rw [hkl]; exact Nat.le_refl _)
      rw [hlk] at hp hq
      have hcv := CV.out wr _ _ hp
      have fb := HB1.out.trans (hB.mono HB1.out.size)
      obtain ⟨A, cap, hv⟩ := rx_own_slice hq
      subst hv
      have hI := chs_ins hq hkl.symm
      have CPw := Lib.hid (CP.out wr fb)
      have FB := Lib.hid fb
      have HI0 := Lib.hid hI
      clear AT CV CP hp hq hB fb hlk hI
      go_wp2_with fail
      refine CPw.out.mono ?_
      rintro e w5 ⟨vs, rfl, ht, hq⟩
      clear hcv CPw
      have HI5 := Lib.hid (Tr.Ins.keep (w' := w5) (P' := fun g => g < w5.heap.size) (fun g hg _ => ⟨Nat.lt_of_lt_of_le hg hq.size, hq.block g hg⟩) _ A 0 HI0.out)
      have HB5 := Lib.hid (FB.out.trans (hq.mono FB.out.size))
      clear hq FB HI0
      by_cases k0 : k = 0
      · subst k0
        obtain rfl : l = [] := List.eq_nil_of_length_eq_zero hkl
        obtain ⟨sv, A5, c5, rfl, _, hR, _⟩ := (show TrV w5 _ (.mk 1 0 false [] 0 0 []) vs from ht).open
        obtain ⟨A6, c6, rfl⟩ := rx_store_set hR
        simp only [List.length_nil]
        have FX := Blk.new w5 #[.int .i64 1, .int .i64 0, .bool false, .slice A6 0 c6, .int .i64 0, .int .i64 0, .slice A5 0 c5] 30
        obtain ⟨V, hV⟩ : ∃ V, w5.alloc (.cells #[.int .i64 1, .int .i64 0, .bool false, .slice A6 0 c6, .int .i64 0, .int .i64 0, .slice A5 0 c5] 30) = V := ⟨_, rfl⟩
        rw [hV] at FX
        have HV := Lib.hid (show Below W.heap.size W V from hV ▸ HB5.out.alloc HB5.out.size _)
        obtain ⟨⟨x0, x1, x2, x3, x4, x5, x6⟩, _⟩ := FX.seven
        clear ht hR FX
        go_wp2_with fail
        go_ret
        exact ⟨rfl, HV.out⟩
      by_cases k1 : k = 1
      · subst k1
        obtain ⟨c, rfl⟩ : ∃ c, l = [c] := List.length_eq_one_iff.1 hkl
        have ht : TrV w5 (fun c => wr.heap.size ≤ c) (trC c.toNat) vs := ht
        obtain ⟨kind, code, neg, A3, n3, c3, lo, hi, A2, n2, c2, rfl⟩ := ht.form
        obtain ⟨g, kind1, code1, neg1, A31, n31, c31, lo1, hi1, A21, n21, c21, hA, ⟨u0, u1, u2, u3, u4, u5, u6⟩, hT⟩ := TrV.at HI5.out 0 (trC c.toNat) rfl
        subst hA
        simp only [Nat.zero_mul, Nat.zero_add] at u0 u1 u2 u3 u4 u5 u6
        have FX := Blk.new w5 #[.int .i64 kind, .int .i64 code, .bool neg, .slice A3 n3 c3, .int .i64 lo, .int .i64 hi, .slice A2 n2 c2] 30
        have hbV := (Below.refl w5.heap.size w5).alloc (Nat.le_refl _) (.cells #[.int .i64 kind, .int .i64 code, .bool neg, .slice A3 n3 c3, .int .i64 lo, .int .i64 hi, .slice A2 n2 c2] 30)
        obtain ⟨V, hV⟩ : ∃ V, w5.alloc (.cells #[.int .i64 kind, .int .i64 code, .bool neg, .slice A3 n3 c3, .int .i64 lo, .int .i64 hi, .slice A2 n2 c2] 30) = V := ⟨_, rfl⟩
        rw [hV] at FX hbV
        have HV := Lib.hid (show Below W.heap.size W V from hV ▸ HB5.out.alloc HB5.out.size _)
        have HA1 := Lib.hid (fun (w : World) (hb : Below V.heap.size V w) => (ht.kept (w' := V) (P' := fun g => g < V.heap.size) (fun g hg _ => ⟨Nat.lt_of_lt_of_le hg hbV.size, hbV.block g hg⟩)).kept (w' := w) (P' := fun _ => True) (fun g hg _ => ⟨trivial, hb.block g hg⟩))
        have HA2 := Lib.hid (fun (w : World) (hb : Below V.heap.size V w) => (hT.kept (w' := V) (P' := fun g => g < V.heap.size) (fun g hg _ => ⟨Nat.lt_of_lt_of_le hg hbV.size, hbV.block g hg⟩)).kept (w' := w) (P' := fun _ => True) (fun g hg _ => ⟨trivial, hb.block g hg⟩))
        have hgl : g < w5.heap.size := World.block_lt_of_cell? w5 _ u0
        have KP := Lib.hid (fun (w : World) (hb : Below V.heap.size V w) => show (w.cell? ⟨w5.heap.size, 0, none⟩ = some (.int .i64 kind) ∧ w.cell? ⟨w5.heap.size, 1, none⟩ = some (.int .i64 code) ∧ w.cell? ⟨w5.heap.size, 2, none⟩ = some (.bool neg) ∧ w.cell? ⟨w5.heap.size, 3, none⟩ = some (.slice A3 n3 c3) ∧ w.cell? ⟨w5.heap.size, 4, none⟩ = some (.int .i64 lo) ∧ w.cell? ⟨w5.heap.size, 5, none⟩ = some (.int .i64 hi) ∧ w.cell? ⟨w5.heap.size, 6, none⟩ = some (.slice A2 n2 c2)) ∧ (w.cell? ⟨g, 0, none⟩ = some (.int .i64 kind1) ∧ w.cell? ⟨g, 1, none⟩ = some (.int .i64 code1) ∧ w.cell? ⟨g, 2, none⟩ = some (.bool neg1) ∧ w.cell? ⟨g, 3, none⟩ = some (.slice A31 n31 c31) ∧ w.cell? ⟨g, 4, none⟩ = some (.int .i64 lo1) ∧ w.cell? ⟨g, 5, none⟩ = some (.int .i64 hi1) ∧ w.cell? ⟨g, 6, none⟩ = some (.slice A21 n21 c21)) from ⟨(FX.below hb FX.lt).seven.1, (hb.cell (p := ⟨g, 0, none⟩) (Nat.lt_of_lt_of_le hgl hbV.size)).trans ((hbV.cell (p := ⟨g, 0, none⟩) hgl).trans u0), (hb.cell (p := ⟨g, 1, none⟩) (Nat.lt_of_lt_of_le hgl hbV.size)).trans ((hbV.cell (p := ⟨g, 1, none⟩) hgl).trans u1), (hb.cell (p := ⟨g, 2, none⟩) (Nat.lt_of_lt_of_le hgl hbV.size)).trans ((hbV.cell (p := ⟨g, 2, none⟩) hgl).trans u2), (hb.cell (p := ⟨g, 3, none⟩) (Nat.lt_of_lt_of_le hgl hbV.size)).trans ((hbV.cell (p := ⟨g, 3, none⟩) hgl).trans u3), (hb.cell (p := ⟨g, 4, none⟩) (Nat.lt_of_lt_of_le hgl hbV.size)).trans ((hbV.cell (p := ⟨g, 4, none⟩) hgl).trans u4), (hb.cell (p := ⟨g, 5, none⟩) (Nat.lt_of_lt_of_le hgl hbV.size)).trans ((hbV.cell (p := ⟨g, 5, none⟩) hgl).trans u5), (hb.cell (p := ⟨g, 6, none⟩) (Nat.lt_of_lt_of_le hgl hbV.size)).trans ((hbV.cell (p := ⟨g, 6, none⟩) hgl).trans u6)⟩)
        obtain ⟨⟨x0, x1, x2, x3, x4, x5, x6⟩, y0, y1, y2, y3, y4, y5, y6⟩ := KP.out V (Below.refl _ _)
        have hR0 := Below.refl V.heap.size V
        clear ht hT FX hbV u0 u1 u2 u3 u4 u5 u6 HI5
        go_wp2_with fail
        clear hV
        go_region_held3 (fun w' => (w'.cell? ⟨w5.heap.size, 0, none⟩ = some (.int .i64 kind) ∧ w'.cell? ⟨w5.heap.size, 1, none⟩ = some (.int .i64 code) ∧ w'.cell? ⟨w5.heap.size, 2, none⟩ = some (.bool neg) ∧ w'.cell? ⟨w5.heap.size, 3, none⟩ = some (.slice A3 n3 c3) ∧ w'.cell? ⟨w5.heap.size, 4, none⟩ = some (.int .i64 lo) ∧ w'.cell? ⟨w5.heap.size, 5, none⟩ = some (.int .i64 hi) ∧ w'.cell? ⟨w5.heap.size, 6, none⟩ = some (.slice A2 n2 c2)) ∧ (w'.cell? ⟨g, 0, none⟩ = some (.int .i64 kind1) ∧ w'.cell? ⟨g, 1, none⟩ = some (.int .i64 code1) ∧ w'.cell? ⟨g, 2, none⟩ = some (.bool neg1) ∧ w'.cell? ⟨g, 3, none⟩ = some (.slice A31 n31 c31) ∧ w'.cell? ⟨g, 4, none⟩ = some (.int .i64 lo1) ∧ w'.cell? ⟨g, 5, none⟩ = some (.int .i64 hi1) ∧ w'.cell? ⟨g, 6, none⟩ = some (.slice A21 n21 c21)))
          (first | (with_reducible exact S7) | go_keep)
          (first
          | (go_at_call 9; (with_reducible refine (rx_same (HA1.out _ (by first | exact hR0 | exact hR0.drew | exact below_drewN hR0 _)) (HA2.out _ (by first | exact hR0 | exact hR0.drew | exact below_drewN hR0 _))).mono ?_); rintro e X7 ⟨rfl, h⟩; have b7 : Below V.heap.size V X7 := ⟨h.os, h.tape, h.output, h.size, h.block⟩; have S7 := KP.out _ b7; clear h))
        all_goals
          have HBf := Lib.hid (HV.out.trans (b7.mono HV.out.size))
          clear b7 S7 x0 x1 x2 x3 x4 x5 x6 y0 y1 y2 y3 y4 y5 y6
          go_wp2_with fail
          go_ret
          exact ⟨rfl, HBf.out⟩
      · have ht2 : TrV w5 (fun c => wr.heap.size ≤ c) (trN 5 (l.map fun c => trC c.toNat)) vs := by
          rw [tog_two 5 _ (by rw [List.length_map]; omega)] at ht
          exact ht
        obtain ⟨kind, code, neg, A3, n3, c3, lo, hi, A2, n2, c2, rfl⟩ := ht2.form
        have FX := Blk.new w5 #[.int .i64 kind, .int .i64 code, .bool neg, .slice A3 n3 c3, .int .i64 lo, .int .i64 hi, .slice A2 n2 c2] 30
        have hbV := (Below.refl w5.heap.size w5).alloc (Nat.le_refl _) (.cells #[.int .i64 kind, .int .i64 code, .bool neg, .slice A3 n3 c3, .int .i64 lo, .int .i64 hi, .slice A2 n2 c2] 30)
        obtain ⟨V, hV⟩ : ∃ V, w5.alloc (.cells #[.int .i64 kind, .int .i64 code, .bool neg, .slice A3 n3 c3, .int .i64 lo, .int .i64 hi, .slice A2 n2 c2] 30) = V := ⟨_, rfl⟩
        rw [hV] at FX hbV
        have HV := Lib.hid (show Below W.heap.size W V from hV ▸ HB5.out.alloc HB5.out.size _)
        have q1 := ht2.kept (w' := V) (P' := fun _ => True) (fun g hg _ => ⟨trivial, hbV.block g hg⟩)
        have q2 := Tr.Ins.keep (w' := V) (P' := fun _ => True) (fun g hg _ => ⟨trivial, hbV.block g hg⟩) _ A 0 HI5.out
        have q3 := TrV.mk (kind := 5) (code := 0) (neg := false) (lo := 0) (hi := 0) (kids := l.map fun c => trC c.toNat) (cap := cap) (by rw [List.length_map]; omega) (RgIn.nil V (fun _ => True) none 0) q2
        rw [List.length_map, hkl] at q3
        try simp only [List.length_nil] at q3
        have CS := Lib.hid (rx_same q1 (show TrV V (fun _ => True) (trN 5 (l.map fun c => trC c.toNat)) _ from q3))
        obtain ⟨⟨x0, x1, x2, x3, x4, x5, x6⟩, _⟩ := FX.seven
        have e0 : ((k : Int) == 0) = false := beq_eq_false_iff_ne.2 (by omega)
        have e1 : ((k : Int) == 1) = false := beq_eq_false_iff_ne.2 (by omega)
        clear ht ht2 FX hbV q1 q2 q3 HI5 k0 k1
        go_wp2_with fail
        refine CS.out.mono ?_
        rintro e w8 ⟨rfl, hq⟩
        have HBf := Lib.hid (HV.out.trans (hq.mono HV.out.size))
        clear hq CS x0 x1 x2 x3 x4 x5 x6
        go_wp2_with fail
        go_ret
        exact ⟨rfl, HBf.out⟩
end Go.Proofs.YtmfcofiihopbfaaDoor
