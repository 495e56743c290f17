/- Several texts in one (Contracts of layer 10: find; Contracts of layer 10: does a character fit?; Contracts of layer 10: a search that hasn't begun; Contracts of layer 10: the first place from a byte on; Contracts of layer 10: Find). -/
import Derived.StillTailTactics
import Derived.WalkMore
import Derived.Deep.LoopGhost
import Derived.Deep.RegionHeld3
import Derived.Deep.CutRange
import Derived.Lib.LazyBuf
import Derived.Test.YtdfacbcenogplaaDoorShelf
import Derived.Test.YtdfacbcenogplaaDoorPk3
namespace Go.Proofs.YtdfacbcenogplaaDoor
open Go.RowKit Go.Lib Go.Maps

/-- Is a code in one of the ranges? -/
def inR (set : List (Int × Int)) (c : Int) : Bool := set.any fun r => decide (r.1 ≤ c ∧ c ≤ r.2)
/-- May a character stand where a leaf asks for one? -/
def fitF (fold bytes : Bool) (kind code : Int) (neg : Bool) (set : List (Int × Int)) (c : Nat) : Bool :=
  if kind = 2 then decide (chLow fold bytes c = code) else if kind = 4 then (inR set (chLow fold bytes c) || inR set (chCap fold bytes c)) != neg else true
/-- A string, as a search sees it. -/
def envS (k : SCon) : NEnv := ⟨fun a => if a < k.s.size then some (a + (nextZ k.s a k.bytes).2) else none, fun kind code neg set a => fitF k.fold k.bytes kind code neg set (nextZ k.s a k.bytes).1, holdF k.s⟩
/-- 'fits' answers as it should, of these instructions. -/
def FitsOK (k : SCon) : Prop := ∀ (w : World) (i : Nat) (x : Ins) (c : Nat), PrgIn w k.B k.P k.fold k.bytes k.cb k.ccap k.C k.first → k.C[i]? = some x → leafK x.kind → c < 4294967296 →
  Calls Tryd.prog 52 #[.pointer (some ⟨k.cb, i * 5, none⟩), .agg #[.int .i64 (chLow k.fold k.bytes c), .int .i64 (chCap k.fold k.bytes c)]] w fun e w' => e = .returned (.bool (fitF k.fold k.bytes x.kind x.code x.neg x.set c)) ∧ Below w.heap.size w w'
theorem own_zero {w : World} {n : Nat} {t : TypeId} {z : Nat} {A : Option Addr} {c k : Nat} {xs : List Value} (h : w.ownsRow n t z (.slice A k c) k xs) : w.ownsRow n t z (.slice A 0 c) 0 [] := by
  refine ⟨by simp, ?_⟩
  rcases h.2 with ⟨e, h0⟩ | ⟨g, cap, cur, e, hn, hg, h1, h2, h3, h4⟩
  · injection e with e1 e2 e3
    subst e1 e3
    exact .inl ⟨rfl, rfl⟩
  · injection e with e1 e2 e3
    subst e1 e3
    exact .inr ⟨g, _, cur, rfl, hn, hg, Nat.zero_le _, h2, h3, by simp⟩
theorem own_keep {w w' : World} {n : Nat} {t : TypeId} {z k : Nat} {v : Value} {xs : List Value} (h : w.ownsRow n t z v k xs) (hk : ∀ g, v.ownBlock = some g → w'.heap[g]? = w.heap[g]?) : w'.ownsRow n t z v k xs := by
  refine ⟨h.1, ?_⟩
  rcases h.2 with h0 | ⟨g, cap, cur, e, hn, hr, hz⟩
  · exact .inl h0
  · exact .inr ⟨g, cap, cur, e, hn, (hk g (by rw [e]; rfl)).trans hr, hz⟩
theorem own_at {w : World} {n : Nat} {t : TypeId} {z k : Nat} {v : Value} {xs : List Value} (h : w.ownsRow n t z v k xs) : ∀ g, v.ownBlock = some g → n ≤ g ∧ ∃ c, w.heap[g]? = some (.cells c t (0, 0)) := fun g hg => by
  rcases h.2 with ⟨e, _⟩ | ⟨g', cap, cur, e, hn, hr, hz⟩
  · rw [e] at hg; cases hg
  · rw [e] at hg; cases hg; exact ⟨hn, cur, hr⟩
theorem own_frame2 {k : SCon} {w w' : World} {p : Nat} {nowv nextv mv v : Value} {rb ro rcap n z : Nat} {cs : Array Value} {ws : List Nat} {ss : SS} {xs : List Value} (ho : w.ownsRow k.B 105 z v n xs) (h : Sch k w p nowv nextv mv rb ro rcap cs ws ss) (hn : ∀ g, g ≠ k.R → g ≠ rb → w'.heap[g]? = w.heap[g]?) : ∀ g, v.ownBlock = some g → w'.heap[g]? = w.heap[g]? := fun g hg => by
  obtain ⟨_, c, hc⟩ := own_at ho g hg
  have b : Blk w g c 105 := ⟨hc⟩
  exact hn g (Blk.apart b h.blk (by decide)) (Blk.apart b h.row (by decide))
theorem own_frame3 {k : SCon} {w w' : World} {p : Nat} {nowv nextv mv : Value} {rb ro rcap n z : Nat} {cs : Array Value} {ws : List Nat} {ss : SS} {xs : List Value} (ho : w.ownsRow k.B 105 z nowv n xs) (h : Sch k w p nowv nextv mv rb ro rcap cs ws ss) (hn : ∀ g, g < w.heap.size → g ≠ k.R → g ≠ rb → nextv.ownBlock ≠ some g → w'.heap[g]? = w.heap[g]?) : ∀ g, nowv.ownBlock = some g → w'.heap[g]? = w.heap[g]? := fun g hg => by
  obtain ⟨_, c, hc⟩ := own_at ho g hg
  have b : Blk w g c 105 := ⟨hc⟩
  exact hn g b.lt (Blk.apart b h.blk (by decide)) (Blk.apart b h.row (by decide)) (fun q => h.nn g q hg)
theorem quietB {w : World} {n : Nat} : Below w.heap.size w (w.drewN n) := ⟨rfl, rfl, rfl, Nat.le_refl _, fun _ _ => rfl⟩
theorem blk_frame3 {k : SCon} {w w' : World} {p : Nat} {nowv nextv mv : Value} {rb ro rcap b : Nat} {cs c : Array Value} {ws : List Nat} {ss : SS} {t : TypeId} (hb : Blk w b c t) (h1 : t ≠ 97) (h2 : t ≠ 144) (h3 : t ≠ 105) (h : Sch k w p nowv nextv mv rb ro rcap cs ws ss) (hn : ∀ g, g < w.heap.size → g ≠ k.R → g ≠ rb → nextv.ownBlock ≠ some g → w'.heap[g]? = w.heap[g]?) : Blk w' b c t :=
  ⟨(hn b hb.lt (Blk.apart hb h.blk h1) (Blk.apart hb h.row h2) (fun q => by
    obtain ⟨_, c', hc⟩ := own_at h.nx b q
    have b' : Blk w b c' 105 := ⟨hc⟩
    exact Blk.apart hb b' h3 rfl)).trans hb.row⟩
theorem ownBlock_slice (A : Option Addr) (n m c d : Nat) : (Value.slice A n c).ownBlock = (Value.slice A m d).ownBlock := by cases A <;> rfl
/-- The beginning: nothing is found, no way waits. -/
theorem Sch.begin {k : SCon} {w : World} {p : Nat} {nowv mv : Value} {A : Option Addr} {c n : Nat} {rb ro rcap : Nat} {cs : Array Value} {ws : List Nat} {ss : SS} (h : Sch k w p nowv (.slice A n c) mv rb ro rcap cs ws ss) :
    Sch k ((w.setCell ⟨k.R, 5, none⟩ (.bool false)).setCell ⟨k.R, 4, none⟩ (.slice A 0 c)) p nowv (.slice A 0 c) mv rb ro rcap cs ws { ss with found := false, next := [] } := by
  have hne := Blk.apart h.row h.blk (by decide)
  have b1 : Blk (w.setCell ⟨k.R, 5, none⟩ (.bool false)) k.R _ 97 := h.blk.set
  obtain ⟨A', c', e⟩ := own_slice h.nx
  have hn : n = ss.next.length := by injection e
  have hnx := h.nx
  rw [← hn] at hnx
  exact ⟨b1.set, h.up, h.prg.below (((Below.refl _ _).setCell (p := ⟨k.R, 5, none⟩) h.up _).setCell (p := ⟨k.R, 4, none⟩) h.up _), (h.row.other hne).other hne, h.rup, h.rin, h.wl, h.wb, h.wc, h.rowE, own_set (own_set (own_zero hnx) h.blk (by decide)) b1 (by decide), fun g hg => h.nn g ((ownBlock_slice A n 0 c c).trans hg), h.pl⟩
/-- The ways that waited are gone now; none waits. -/
theorem Sch.swap {k : SCon} {w : World} {p : Nat} {mv : Value} {A A' : Option Addr} {c n c' n' : Nat} {rb ro rcap : Nat} {cs : Array Value} {ws : List Nat} {ss : SS} {xs : List Value} (h : Sch k w p (.slice A n c) (.slice A' n' c') mv rb ro rcap cs ws ss) (ho : w.ownsRow k.B 105 2 (.slice A n c) n xs) :
    Sch k ((w.setCell ⟨k.R, 3, none⟩ (.slice A' n' c')).setCell ⟨k.R, 4, none⟩ (.slice A 0 c)) p (.slice A' n' c') (.slice A 0 c) mv rb ro rcap cs ws { ss with next := [] } := by
  have hne := Blk.apart h.row h.blk (by decide)
  have b1 : Blk (w.setCell ⟨k.R, 3, none⟩ (.slice A' n' c')) k.R _ 97 := h.blk.set
  exact ⟨b1.set, h.up, h.prg.below (((Below.refl _ _).setCell (p := ⟨k.R, 3, none⟩) h.up _).setCell (p := ⟨k.R, 4, none⟩) h.up _), (h.row.other hne).other hne, h.rup, h.rin, h.wl, h.wb, h.wc, h.rowE, own_set (own_set (own_zero ho) h.blk (by decide)) b1 (by decide), fun g hg hn => h.nn g hn ((ownBlock_slice A n 0 c c).trans hg), h.pl⟩
/-- Where something is found already, no match is begun. -/
theorem Srch.skip {E : NEnv} {D : List Ins} {M0 : Nat → Nat → Prop} {o first q p : Nat} {s : SS} {V : Nat → Nat → Nat → Prop} (h : Srch E D M0 o first q p p [] s V) (_hE : Rising E) (hf : s.found = true) : Srch E D M0 o first q p (p + 1) [] s V :=
  ⟨h.on, h.prev, h.row, fun n x st hv => by
    obtain ⟨a1, a2, a3, a4, a5, a6⟩ := h.v1 n x st hv
    exact ⟨a1, a2, a3, a4, by omega, a6⟩, h.v2, h.v3, fun a ha hc => by
    by_cases q : a < p
    · exact h.v4 a ha q
    · have := (h.v1 _ _ _ (h.v6 hf)).2.2.2.2.1
      exact .inr (.inr ⟨hf, by omega⟩), h.v5, h.srt, h.v6, h.v7, h.v8, h.rs, h.rw'⟩
/-- A match is begun at the place. -/
theorem Srch.try {E : NEnv} {D : List Ins} {o first q p : Nat} {s s' : SS} {V : Nat → Nat → Nat → Prop} (hE : Rising E) (h : Srch E D (fun _ _ => False) o first q p p [] s V) (hf : s.found = false) (hF : Fol E D p p s s' (fun i => i = first)) : ∃ V', Srch E D (fun _ _ => False) o first q p (p + 1) [] s' V' := by
  obtain ⟨V', h1, _⟩ := h.grow hE (c' := p + 1) hF h.on (Nat.le_refl _) ⟨by omega, by omega⟩ (fun r hr => by rw [hr]; exact .here) (fun n st hv => by have := (h.v1 n p st hv).2.1; omega) (fun w hw => (nomatch hw)) (fun hfd => by rw [hf] at hfd; cases hfd) (fun a ha h1 h2 => ⟨by omega, rfl, rfl⟩)
  exact ⟨V', h1⟩
theorem Srch.fits {E : NEnv} {D : List Ins} {M0 : Nat → Nat → Prop} {o first q p m st m0 : Nat} {rest : List (Nat × Nat)} {s s' : SS} {V : Nat → Nat → Nat → Prop} {X : Ins} (hE : Rising E) (h : Srch E D M0 o first q p p ((m, st) :: rest) s V) (hX : D[m]? = some X) (hl : leafK X.kind) (hf : E.fit X.kind X.code X.neg X.set q = true) (hw : X.ways.head? = some m0) (hng : ¬ (s.found = true ∧ s.st < st)) (hF : Fol E D p st s s' (fun i => i = m0)) :
    ∃ V', Srch E D M0 o first q p p rest s' V' := by
  obtain ⟨hq, _⟩ := h.prev (by simp)
  obtain ⟨r1, r2⟩ := h.rw' (m, st) List.mem_cons_self
  obtain ⟨a1, a2, a3, a4, a5, a6, a7⟩ := h.v1 _ _ _ r2
  obtain ⟨V', h1, _, h3⟩ := h.grow hE (c' := p) hF a1 (Nat.le_trans a2 a4) ⟨Nat.le_refl _, a5⟩ (fun r hr => by rw [hr]; exact .step a7 ⟨X, hX, hl, hq, hf, hw⟩) r1 (fun w hw => by
    rcases List.mem_cons.1 hw with e | e
    · rw [e]; exact Nat.le_refl _
    · exact (List.pairwise_cons.1 h.rs).1 w e) (fun hfd => Nat.le_of_not_lt fun k => hng ⟨hfd, k⟩) (fun a _ h1 h2 => by omega)
  refine ⟨V', h1.drop hE fun m' hs => ?_⟩
  obtain ⟨Y, hY, _, _, _, hj⟩ := hs
  rw [hX] at hY
  cases hY
  rw [hw] at hj
  cases hj
  exact (h3 _ rfl).imp id Or.inl
theorem Srch.nofit {E : NEnv} {D : List Ins} {M0 : Nat → Nat → Prop} {o first q p c m st : Nat} {rest : List (Nat × Nat)} {s : SS} {V : Nat → Nat → Nat → Prop} {X : Ins} (hE : Rising E) (h : Srch E D M0 o first q p c ((m, st) :: rest) s V) (hX : D[m]? = some X) (hf : E.fit X.kind X.code X.neg X.set q = false) :
    Srch E D M0 o first q p c rest s V := by
  refine h.drop hE fun m' hs => ?_
  obtain ⟨Y, hY, _, _, hk, _⟩ := hs
  rw [hX] at hY
  cases hY
  rw [hf] at hk
  cases hk
theorem pathCells_get : ∀ (l : List (Nat × Nat)) (j m st : Nat), l[j]? = some (m, st) → (pathCells l)[j * 2]? = some (.int .i64 (m : Int)) ∧ (pathCells l)[j * 2 + 1]? = some (.int .i64 (st : Int))
  | [], _, _, _, h => by simp at h
  | x :: l, 0, m, st, h => by
    simp at h
    subst h
    exact ⟨rfl, rfl⟩
  | x :: l, j + 1, m, st, h => by
    have := pathCells_get l j m st (by simpa using h)
    rw [show (j + 1) * 2 = j * 2 + 1 + 1 by omega]
    exact this
theorem path_read {w : World} {B n c : Nat} {A : Option Addr} {l : List (Nat × Nat)} (h : w.ownsRow B 105 2 (.slice A n c) l.length (pathCells l)) {j m st : Nat} (hm : l[j]? = some (m, st)) : ∃ g, A = some ⟨g, 0, none⟩ ∧ w.cell? ⟨g, j * 2, none⟩ = some (.int .i64 (m : Int)) ∧ w.cell? ⟨g, j * 2 + 1, none⟩ = some (.int .i64 (st : Int)) := by
  have hlt := (List.getElem?_eq_some_iff.1 hm).1
  rcases h.2 with ⟨_, h0⟩ | ⟨g, cap, cur, e, _, hr, _, _, _, hp⟩
  · omega
  · injection e with e1
    obtain ⟨h1, h2⟩ := pathCells_get l j m st hm
    rw [← hp, List.getElem?_take, if_pos (by omega), Array.getElem?_toList] at h1 h2
    exact ⟨g, e1, (cell_of_row w g _ cur _ _ hr).trans h1, (cell_of_row w g _ cur _ _ hr).trans h2⟩
theorem uCod_lt (s : ByteArray) (b : Bool) (i : Nat) : uCod s b i < 1200000 := by
  unfold uCod nextZ
  split
  · decide
  · split
    · have := (s.get! (i : Int).toNat).toNat_lt
      simp only
      omega
    · unfold chS chN
      have h1 := decodeN_lt (s.size - (i : Int).toNat) (s.get! (i : Int).toNat).toNat (s.get! ((i : Int).toNat + 1)).toNat (s.get! ((i : Int).toNat + 2)).toNat (s.get! ((i : Int).toNat + 3)).toNat
      have h2 := (s.get! (i : Int).toNat).toNat_lt
      split
      · simp only
        omega
      · omega
theorem unset_top (ws : List Nat) (n : Nat) : unset ws n ≤ n := by
  unfold unset
  have := List.length_filter_le (fun i => !(ws.getD (i / 64) 0).testBit (i % 64)) (List.range n)
  rwa [List.length_range] at this
theorem rising_env (k : SCon) : Rising (envS k) := fun a b h => by
  unfold envS at h
  simp only at h
  by_cases q : a < k.s.size
  · rw [if_pos q] at h
    have h1 := (wid_in k.s k.bytes a q).1
    injection h with h
    rw [nextZ_eq] at h
    simp only at h
    omega
  · rw [if_neg q] at h
    cases h
set_option maxRecDepth 100000 in
set_option maxHeartbeats 8000000 in
theorem find_any (k : SCon) (K : Well k) (hk : k.keep = false) {x0 : Ins} (hx0 : k.C[0]? = some x0) (hfi : k.first < k.C.length) (hF : FitsOK k) {w : World} (hT : ∀ W', Below k.B w W' → Utf8Tabs 4 5 W') {p0 : Nat} {A A' : Option Addr} {n n' c c' : Nat} {mv : Value} {rb ro rcap : Nat} {cs : Array Value} {ws : List Nat} {ss : SS} {xs : List Value}
    (hS : Sch k w p0 (.slice A n c) (.slice A' n' c') mv rb ro rcap cs ws ss) (ho : w.ownsRow k.B 105 2 (.slice A n c) n xs) {o : Nat} (hos : o ≤ k.s.size) :
    Calls Tryd.prog 27 #[.pointer (some ⟨k.R, 0, none⟩), .int .i64 (o : Int)] w fun e w' => (∃ (found : Bool) (st en : Nat), e = .returned (if found then .tuple #[.int .i64 (st : Int), .int .i64 (en : Int), .bool true] else .tuple #[.int .i64 0, .int .i64 0, .bool false]) ∧ Best (envS k) k.C (fun _ _ => False) o k.first found st en) ∧ Below k.B w w' := by
  have HS := Lib.hid hS
  have HO := Lib.hid ho
  have HT := Lib.hid hT
  have hCl := K.len
  have hC0 : 0 < k.C.length := (List.getElem?_eq_some_iff.1 hx0).1
  obtain ⟨⟨c0, c1, c2, c3, c4, c5, c6, c7, c11⟩, fr⟩ := hS.cells
  have hS1 := hS.begin
  obtain ⟨w1, hw1⟩ : ∃ w1, (w.setCell ⟨k.R, 5, none⟩ (.bool false)).setCell ⟨k.R, 4, none⟩ (.slice A' 0 c') = w1 := ⟨_, rfl⟩
  clear hS ho hT
  go_enter Tryd.func27, Tryd.ntmps27
  go_wp2
  go_step3
  go_wp2
  go_region
  have hb2 : Below w1.heap.size w1 w1.drew := ⟨rfl, rfl, rfl, Nat.le_refl _, fun _ _ => rfl⟩
  rw [hw1] at hS1
  have hS2 := hS1.same hb2
  have hbl : Below k.B w w1.drew := by
    have h1 : Below k.B w w1 := by rw [← hw1]; exact ((Below.refl _ _).setCell (p := ⟨k.R, 5, none⟩) HS.out.up _).setCell (p := ⟨k.R, 4, none⟩) HS.out.up _
    exact h1.trans (hb2.mono hS1.size)
  have ho2 : (w1.drew).ownsRow k.B 105 2 (.slice A n c) n xs := by
    have b1 : Blk (w.setCell ⟨k.R, 5, none⟩ (.bool false)) k.R _ 97 := HS.out.blk.set
    have h1 : w1.ownsRow k.B 105 2 (.slice A n c) n xs := by rw [← hw1]; exact own_set (own_set HO.out HS.out.blk (by decide)) b1 (by decide)
    exact own_bel h1 hb2
  obtain ⟨w2, hw2⟩ : ∃ w2, w1.drew = w2 := ⟨_, rfl⟩
  rw [hw2] at hS2 hbl ho2 ⊢
  have CM := Lib.hid (move_any k K hk hC0 hS2 hos)
  have HO2 := Lib.hid ho2
  have HS2 := Lib.hid hS2
  have HL2 := Lib.hid hbl
  clear hS1 hS2 hb2 hbl ho2 hw1 hw2 c0 c1 c2 c3 c4 c5 c6 c7 c11 fr
  go_wp2_with fail
  refine CM.out.mono ?_
  rintro e w3 ⟨⟨rv, rfl⟩, ⟨cs3, ws3, hS3, hz3⟩, hb3, hn3⟩
  have HS3 := Lib.hid hS3
  have HO3 := Lib.hid (own_keep HO2.out (own_frame2 HO2.out HS2.out hn3))
  have HL3 := Lib.hid (HL2.out.trans hb3)
  clear hS3 hz3 hb3 hn3 CM HO2 HL2 HS2
  go_wp2
  go_step3
  go_wp2
  go_loopg [7] (k.s.size + 1 - o) (fun gh _ wr => ∃ (p q n c n' c' : Nat) (A A' : Option Addr) (cs : Array Value) (ws : List Nat) (ss : SS) (V : Nat → Nat → Nat → Prop) (xs : List Value), p + gh = k.s.size + 1 ∧ Sch k wr p (.slice A n c) (.slice A' n' c') mv rb ro rcap cs ws ss ∧ wr.ownsRow k.B 105 2 (.slice A n c) n xs ∧ Srch (envS k) k.C (fun _ _ => False) o k.first q p p [] ss V ∧ Below k.B w wr ∧ ss.next.length + unset ws k.C.length ≤ 100000)
  case atStart =>
    have hu := unset_top ws3 k.C.length
    exact ⟨o, o, n, c, 0, c', A, A', cs3, ws3, _, _, xs, by omega, HS3.out, HO3.out, Srch.start (envS k) k.C (rising_env k) _ o k.first (fun _ => Iff.rfl) rfl rfl, HL3.out, by simp; omega⟩
  case round =>
    clear HS3 HO3 HL3
    obtain ⟨p, q, n, c, n', c', A, A', cs, ws, ss, V, xs, hgh, hSc, hOw, hSr, hLo, hBd⟩ := hrel
    have HSc := Lib.hid hSc
    have HOw := Lib.hid hOw
    have HSr := Lib.hid hSr
    have HLo := Lib.hid hLo
    obtain ⟨⟨c0, c1, c2, c3, c4, c5, c6, c7, c11⟩, fr⟩ := hSc.cells
    have cP2 := hSc.prg.blk.cell 3
    clear hSc hOw hSr hLo
    go_upto_if 31 with fail
    go_cut [] from 27 to 155 (fun w5 => ∃ (n' c' : Nat) (A' : Option Addr) (cs : Array Value) (ws : List Nat) (ss : SS) (V : Nat → Nat → Nat → Prop), Sch k w5 p (.slice A n c) (.slice A' n' c') mv rb ro rcap cs ws ss ∧ w5.ownsRow k.B 105 2 (.slice A n c) n xs ∧ Srch (envS k) k.C (fun _ _ => False) o k.first q p (p + 1) [] ss V ∧ Below k.B w w5 ∧ ss.next.length + unset ws k.C.length ≤ 100000)
    case first =>
      cases hfd : ss.found with
      | true =>
        go_wp2
        go_meet
        case rel => exact ⟨n', c', A', cs, ws, ss, V, HSc.out, HOw.out, HSr.out.skip (rising_env k) hfd, HLo.out, hBd⟩
      | false =>
        go_wp2
        go_still_tail 12, (by kernel_rfl)
        change wpList _ _ _ _ _ wr.drew
        have hb4 : Below wr.heap.size wr wr.drew := ⟨rfl, rfl, rfl, Nat.le_refl _, fun _ _ => rfl⟩
        have hS4 := HSc.out.same hb4
        have HO4 := Lib.hid (own_bel HOw.out hb4)
        have HL4 := Lib.hid (HLo.out.trans (hb4.mono HSc.out.size))
        have CFo := Lib.hid (follow_any k K (envS k) rfl (unset ws k.C.length + 1) wr.drew p _ _ mv rb ro rcap cs ws ss k.first p hS4 hfi (Nat.lt_succ_self _) (Nat.le_refl _) (own_at HO4.out) (by omega))
        have hS4 := Lib.hid hS4
        generalize wr.drew = w4 at *
        clear hb4
        go_wp2_with fail
        refine CFo.out.mono ?_
        rintro e w5 ⟨⟨rv5, rfl⟩, ⟨nv5, cs5, ws5, ss5, hS5, hF5, hc5, hz5, hl5, hv5⟩, hb5, hn5⟩
        have HRel : ∃ (n' c' : Nat) (A' : Option Addr) (cs : Array Value) (ws : List Nat) (ss : SS) (V : Nat → Nat → Nat → Prop), Sch k w5 p (.slice A n c) (.slice A' n' c') mv rb ro rcap cs ws ss ∧ w5.ownsRow k.B 105 2 (.slice A n c) n xs ∧ Srch (envS k) k.C (fun _ _ => False) o k.first q p (p + 1) [] ss V ∧ Below k.B w w5 ∧ ss.next.length + unset ws k.C.length ≤ 100000 := by
          obtain ⟨V5, hV5⟩ := HSr.out.try (rising_env k) hfd hF5
          obtain ⟨A5, c5', rfl⟩ := own_slice hS5.nx
          exact ⟨_, c5', A5, cs5, ws5, ss5, V5, hS5, own_keep HO4.out (own_frame3 HO4.out hS4.out hn5), hV5, HL4.out.trans hb5, Nat.le_trans hl5 hBd⟩
        have HRel := Lib.hid HRel
        clear HSc HOw HSr HLo HO4 HL4 CFo hS4 hS5 hF5 hc5 hz5 hl5 hv5 hb5 hn5 hBd
        go_wp2
        go_meet
        case rel => exact HRel.out
    case rest =>
      clear HSc HOw HSr HLo hBd c0 c1 c2 c3 c4 c5 c6 c7 c11 fr cP2 V ss ws cs A' c' n'
      obtain ⟨n', c', A', cs, ws, ss, V, hSc, hOw, hSr, hLo, hBd⟩ := hcut
      have HSc := Lib.hid hSc
      have HOw := Lib.hid hOw
      have HSr := Lib.hid hSr
      have HLo := Lib.hid hLo
      obtain ⟨⟨c0, c1, c2, c3, c4, c5, c6, c7, c11⟩, fr⟩ := hSc.cells
      have cP1 := hSc.prg.blk.cell 1
      simp only [List.getElem?_toArray, List.getElem?_cons_succ, List.getElem?_cons_zero] at cP1
      have KP := Lib.hid (fun (Y : World) (hb : Below wc.heap.size wc Y) => show Y.cell? ⟨k.R, 1, none⟩ = some (.string k.s) ∧ Y.cell? ⟨k.R, 2, none⟩ = some (.int .i64 (p : Int)) ∧ Y.cell? ⟨k.R, 0, none⟩ = some (.pointer (some ⟨k.P, 0, none⟩)) ∧ Y.cell? ⟨k.P, 1, none⟩ = some (.bool k.bytes) from
        ⟨(hb.cell (p := ⟨k.R, 1, none⟩) (lt_of_cell c1)).trans c1, (hb.cell (p := ⟨k.R, 2, none⟩) (lt_of_cell c2)).trans c2, (hb.cell (p := ⟨k.R, 0, none⟩) (lt_of_cell c0)).trans c0, (hb.cell (p := ⟨k.P, 1, none⟩) (lt_of_cell cP1)).trans cP1⟩)
      obtain ⟨CODE, hCO⟩ : ∃ z, uCod k.s k.bytes p = z := ⟨_, rfl⟩
      obtain ⟨Z, hZ⟩ : ∃ z, wid k.s k.bytes p = z := ⟨_, rfl⟩
      have hcn : ∀ Y, Below wc.heap.size wc Y → Calls Tryd.prog 50 #[.string k.s, .int .i64 (p : Int), .bool k.bytes] Y fun e w' => e = .returned (.tuple #[.int .i64 (CODE : Int), .int .i64 (Z : Int)]) ∧ Below Y.heap.size Y w' := fun Y hY => by
        have := next_any k.s p k.bytes Y (HT.out Y (hLo.trans (hY.mono hSc.size))) (by have := K.str; omega)
        rw [nextZ_eq, hCO, hZ] at this
        exact this
      have CN := Lib.hid (hcn wc.drew ⟨rfl, rfl, rfl, Nat.le_refl _, fun _ _ => rfl⟩)
      have HZ := Lib.hid (And.intro hCO hZ)
      clear hSc hOw hSr hLo hcn hCO hZ
      go_wp2
      go_region_held3 (fun w' => w'.cell? ⟨k.R, 1, none⟩ = some (.string k.s) ∧ w'.cell? ⟨k.R, 2, none⟩ = some (.int .i64 (p : Int)) ∧ w'.cell? ⟨k.R, 0, none⟩ = some (.pointer (some ⟨k.P, 0, none⟩)) ∧ w'.cell? ⟨k.P, 1, none⟩ = some (.bool k.bytes))
        (first | (with_reducible exact S6) | go_keep)
        ((go_at_call 50; (with_reducible refine CN.out.mono ?_); rintro e X6 ⟨rfl, h⟩; have b6 : Below wc.heap.size wc X6 := ⟨h.os, h.tape, h.output, h.size, h.block⟩; have S6 := KP.out _ b6; clear h))
      have hS6 := HSc.out.same b6
      have ho6 := own_bel HOw.out b6
      have hl6 := HLo.out.trans (b6.mono HSc.out.size)
      have hcod := uCod_lt k.s k.bytes p
      rw [HZ.out.1] at hcod
      clear b6 S6
      generalize X6 = w6 at *
      have HSc := Lib.hid hS6
      have HOw := Lib.hid ho6
      have HLo := Lib.hid hl6
      obtain ⟨⟨c0, c1, c2, c3, c4, c5, c6, c7, c11⟩, fr⟩ := hS6.cells
      obtain ⟨A0, c0', e0⟩ := own_slice hS6.nx
      have hn' : n' = ss.next.length := by injection e0
      have HN' := Lib.hid hn'
      have hpl := hS6.pl
      have hstr := K.str
      clear hS6 ho6 hl6 KP CN e0 A0 c0' hn'
      go_upto_region 6 with fail
      go_cut [80] from 27 to 155 (fun s w' => ∃ b, s = .bool b ∧ w' = w6 ∧ (b = true ↔ (p = k.s.size ∨ (ss.found = true ∧ ss.next = []))))
      case first =>
        clear hcod hstr
        by_cases hp : p = k.s.size
        · have hz0 : Z = 0 := by rw [← HZ.out.2]; exact wid_out _ _ _ (by omega)
          subst hz0
          have HP := Lib.hid hp
          clear hp
          go_wp2
          go_meet
          case rel => exact ⟨true, rfl, rfl, fun _ => .inl HP.out, fun _ => rfl⟩
        · have hz1 := wid_in k.s k.bytes p (by omega)
          rw [HZ.out.2] at hz1
          have hzb : ((Z : Int) == 0) = false := by simp; omega
          have HP := Lib.hid hp
          clear hp hz1
          cases hfd : ss.found with
          | false =>
            go_wp2
            go_meet
            case rel =>
              refine ⟨false, rfl, rfl, ⟨fun h => (nomatch h), fun h => ?_⟩⟩
              rcases h with q | q
              · exact absurd q HP.out
              · exact absurd (hfd.symm.trans q.1) (by decide)
          | true =>
            cases n' with
            | zero =>
              go_wp2
              go_meet
              case rel => exact ⟨true, rfl, rfl, fun _ => .inr ⟨hfd, List.eq_nil_of_length_eq_zero HN'.out.symm⟩, fun _ => rfl⟩
            | succ m =>
              have hm : (((m + 1 : Nat) : Int) == 0) = false := by simp; omega
              go_wp2
              go_meet
              case rel =>
                refine ⟨false, rfl, rfl, ⟨fun h => (nomatch h), fun h => ?_⟩⟩
                rcases h with q | q
                · exact absurd q HP.out
                · have := HN'.out
                  rw [q.2] at this
                  simp at this
      case rest =>
        obtain ⟨b, rfl, rfl, hb⟩ := hcut
        cases b with
        | true =>
          have HB := Lib.hid (HSr.out.best (rising_env k) K.one hx0 (Dead.empty _ _ _) ((hb.1 rfl).imp (fun h => show (if p < k.s.size then _ else none) = none from if_neg (by omega)) id))
          clear hb
          cases hfd : ss.found with
          | true =>
            rw [hfd] at c5
            have HFD := Lib.hid hfd
            clear hfd
            go_wp2
            go_quiet (fail)
            go_wp2
            rw [Exit.noGoto_ret]
            refine bodyPost_ret (results_tmp3 rfl _ _ _) rfl ?_
            refine ⟨⟨true, ss.st, ss.en, rfl, ?_⟩, HLo.out.trans ⟨rfl, rfl, rfl, Nat.le_refl _, fun _ _ => rfl⟩⟩
            have h := HB.out
            rw [HFD.out] at h
            exact h
          | false =>
            rw [hfd] at c5
            have HFD := Lib.hid hfd
            clear hfd
            go_wp2
            rw [Exit.noGoto_ret]
            refine bodyPost_ret (results_tmp3 rfl _ _ _) rfl ?_
            refine ⟨⟨false, ss.st, ss.en, rfl, ?_⟩, HLo.out⟩
            have h := HB.out
            rw [HFD.out] at h
            exact h
        | false =>
          have hgo : ¬ (p = k.s.size ∨ (ss.found = true ∧ ss.next = [])) := fun h => nomatch (hb.2 h)
          have hplt : p < k.s.size := by omega
          have hz1 := wid_in k.s k.bytes p hplt
          rw [HZ.out.2] at hz1
          have HST := Lib.hid (show (envS k).nxt p = some (p + Z) by
            show (if p < k.s.size then some (p + (nextZ k.s p k.bytes).2) else none) = _
            rw [if_pos hplt, nextZ_eq, HZ.out.2])
          have CC := Lib.hid (char_any HSc.out.prg HSc.out.size CODE (by omega))
          have HGO := Lib.hid hgo
          clear hb hgo
          obtain ⟨LO, hLO⟩ : ∃ z, chLow k.fold k.bytes (CODE : Int) = z := ⟨_, rfl⟩
          obtain ⟨HI, hHI⟩ : ∃ z, chCap k.fold k.bytes (CODE : Int) = z := ⟨_, rfl⟩
          rw [hLO, hHI] at CC
          have HCH := Lib.hid (And.intro hLO hHI)
          clear hLO hHI
          go_wp2_with fail
          refine CC.out.mono ?_
          rintro e w7 ⟨rfl, b7⟩
          have b8 : Below wc.heap.size wc (w7.alloc (.cells #[.int .i64 LO, .int .i64 HI] 102)) := b7.alloc b7.size _
          have hS8 := HSc.out.same b8
          have hO8 := own_bel HOw.out b8
          have hL8 := HLo.out.trans (b8.mono HSc.out.size)
          have hX8 : Blk (w7.alloc (.cells #[.int .i64 LO, .int .i64 HI] 102)) w7.heap.size #[.int .i64 LO, .int .i64 HI] 102 := Blk.new _ _ _
          clear b7 b8 c0 c1 c2 c3 c4 c5 c6 c7 c11 fr CC
          have HS8 := Lib.hid hS8
          have HO8 := Lib.hid hO8
          have HL8 := Lib.hid hL8
          have HX8 := Lib.hid hX8
          obtain ⟨⟨c0, c1, c2, c3, c4, c5, c6, c7, c11⟩, fr⟩ := hS8.cells
          clear hS8 hO8 hL8 hX8 HSc HOw HLo
          have hw8 : IntKind.i64.wrap ((p : Int) + (Z : Int)) = (p : Int) + (Z : Int) := IntWalk.i64_in _ (by omega)
          have hcm := move_any k K hk hC0 HS8.out (q := p + Z) hz1.2
          rw [Int.natCast_add] at hcm
          have CM := Lib.hid hcm
          obtain ⟨bx, hbx⟩ : ∃ z, w7.heap.size = z := ⟨_, rfl⟩
          rw [hbx] at HX8
          clear hcm
          go_wp2_with fail
          refine CM.out.mono ?_
          rintro e w9 ⟨⟨rv9, rfl⟩, ⟨cs9, ws9, hS9, hz9⟩, hb9, hn9⟩
          have hO9 := own_keep HO8.out (own_frame2 HO8.out HS8.out hn9)
          have hX9 : Blk w9 bx #[.int .i64 LO, .int .i64 HI] 102 := ⟨(hn9 bx (Blk.apart HX8.out HS8.out.blk (by decide)) (Blk.apart HX8.out HS8.out.row (by decide))).trans HX8.out.row⟩
          have hL9 := HL8.out.trans hb9
          have hS10 := hS9.swap hO9
          have b10 : Blk (w9.setCell ⟨k.R, 3, none⟩ (.slice A' n' c')) k.R _ 97 := hS9.blk.set
          have hn10 : ((w9.setCell ⟨k.R, 3, none⟩ (.slice A' n' c')).setCell ⟨k.R, 4, none⟩ (.slice A 0 c)).ownsRow k.B 105 2 (.slice A' n' c') ss.next.length (pathCells ss.next) := own_set (own_set hS9.nx hS9.blk (by decide)) b10 (by decide)
          have hx10 : Blk ((w9.setCell ⟨k.R, 3, none⟩ (.slice A' n' c')).setCell ⟨k.R, 4, none⟩ (.slice A 0 c)) bx #[.int .i64 LO, .int .i64 HI] 102 := (hX9.other (Blk.apart hX9 hS9.blk (by decide))).other (Blk.apart hX9 hS9.blk (by decide))
          have hl10 : Below k.B w ((w9.setCell ⟨k.R, 3, none⟩ (.slice A' n' c')).setCell ⟨k.R, 4, none⟩ (.slice A 0 c)) := (hL9.setCell (p := ⟨k.R, 3, none⟩) hS9.up _).setCell (p := ⟨k.R, 4, none⟩) hS9.up _
          obtain ⟨w10, hw10⟩ : ∃ x, (w9.setCell ⟨k.R, 3, none⟩ (.slice A' n' c')).setCell ⟨k.R, 4, none⟩ (.slice A 0 c) = x := ⟨_, rfl⟩
          rw [hw10] at hS10 hn10 hx10 hl10
          have HS10 := Lib.hid hS10
          have HN10 := Lib.hid hn10
          have HX10 := Lib.hid hx10
          have HL10 := Lib.hid hl10
          clear c0 c1 c2 c3 c4 c5 c6 c7 c11 fr HS8 HO8 HL8 HX8 CM hbx
          obtain ⟨⟨c0, c1, c2, c3, c4, c5, c6, c7, c11⟩, fr⟩ := hS9.cells
          clear hS9 hz9 hb9 hn9 hO9 hX9 hL9 hS10 b10 hn10 hx10 hl10
          go_wp2
          go_region
          have hb11 : Below w10.heap.size w10 w10.drew := ⟨rfl, rfl, rfl, Nat.le_refl _, fun _ _ => rfl⟩
          have hS11 := HS10.out.same hb11
          have hn11 := own_bel HN10.out hb11
          have hx11 := HX10.out.below hb11 HX10.out.lt
          have hl11 := HL10.out.trans (hb11.mono HS10.out.size)
          obtain ⟨w11, hw11⟩ : ∃ x, w10.drew = x := ⟨_, rfl⟩
          rw [hw11] at hS11 hn11 hx11 hl11 ⊢
          have HLF := Lib.hid (show ∀ y ∈ ss.next, NLeaf k.C y.1 from fun y hy => ((HSr.out.v5 y.1 y.2).1 hy).1)
          have hM := HSr.out.move (rising_env k) HST.out (s' := { ss with row := fun _ => False, next := [] }) (fun n => ⟨fun h => h.elim, fun h => h.elim⟩) rfl rfl rfl rfl
          have HS11 := Lib.hid hS11
          have HN11 := Lib.hid hn11
          have HX11 := Lib.hid hx11
          have HL11 := Lib.hid hl11
          have HM := Lib.hid hM
          clear c0 c1 c2 c3 c4 c5 c6 c7 c11 fr
          obtain ⟨⟨c0, c1, c2, c3, c4, c5, c6, c7, c11⟩, fr⟩ := hS11.cells
          clear hS11 hn11 hx11 hl11 hM hb11 hw11 hw10 HS10 HN10 HX10 HL10 HSr
          have hu11 := unset_top ws9 k.C.length
          go_wp2_with fail
          go_loopg [115] n' (fun gh i wr => ∃ (j n2 c2 : Nat) (A2 : Option Addr) (cs : Array Value) (ws : List Nat) (s : SS) (V : Nat → Nat → Nat → Prop), i = .int .i64 (j : Int) ∧ j + gh = n' ∧ Sch k wr (p + Z) (.slice A' n' c') (.slice A2 n2 c2) mv rb ro rcap cs ws s ∧ wr.ownsRow k.B 105 2 (.slice A' n' c') ss.next.length (pathCells ss.next) ∧ Blk wr bx #[.int .i64 LO, .int .i64 HI] 102 ∧ Below k.B w wr ∧ Srch (envS k) k.C (fun _ _ => False) o k.first p (p + Z) (p + Z) (ss.next.drop j) s V ∧ s.next.length + unset ws k.C.length ≤ 100000)
          case atStart =>
            exact ⟨0, 0, c, A, _, ws9, _, V, rfl, Nat.zero_add _, HS11.out, HN11.out, HX11.out, HL11.out, HM.out, by simp; omega⟩
          case round =>
            clear HS11 HN11 HX11 HL11 HM c0 c1 c2 c3 c4 c5 c6 c7 c11 fr hu11
            obtain ⟨j, n2, c2', A2, cs2, ws2, s, V2, rfl, hj, hSi, hOi, hXi, hLi, hRi, hBi⟩ := hrel
            have HRi := Lib.hid hRi
            have HBi := Lib.hid hBi
            have hnb : n' ≤ 100000 := by have := HN'.out; omega
            by_cases hlt : j < n'
            · obtain ⟨⟨m, st⟩, hm⟩ : ∃ y, ss.next[j]? = some y := ⟨_, List.getElem?_eq_getElem (by rw [← HN'.out]; exact hlt)⟩
              obtain ⟨g, hA, hp0, hp1⟩ := path_read hOi hm
              subst hA
              have hdr : ss.next.drop j = (m, st) :: ss.next.drop (j + 1) := by
                obtain ⟨h1, h2⟩ := List.getElem?_eq_some_iff.1 hm
                rw [List.drop_eq_getElem_cons h1, h2]
              rw [hdr] at hRi
              obtain ⟨X, hX, hXl⟩ := HLF.out _ (List.mem_of_getElem? hm)
              have hst := (hRi.v1 _ _ _ (hRi.rw' (m, st) List.mem_cons_self).2)
              have hstb : st ≤ p + Z := by have := hst.2.1; omega
              have hst2 : st < p + Z := hst.2.2.2.2.1
              have b8 := (Below.refl wr.heap.size wr).alloc (Nat.le_refl _) (.cells #[.int .i64 (m : Int), .int .i64 (st : Int)] 105)
              have hSj := hSi.same b8
              have hOj := own_bel hOi b8
              have hXj := hXi.below b8 hXi.lt
              have hLj := hLi.trans (b8.mono hSi.size)
              have hYj : Blk (wr.alloc (.cells #[.int .i64 (m : Int), .int .i64 (st : Int)] 105)) wr.heap.size #[.int .i64 (m : Int), .int .i64 (st : Int)] 105 := Blk.new _ _ _
              have q1 : (j : Int) < (n' : Int) := by omega
              have q2 : ¬ (j : Int) < 0 := by omega
              have HRj := Lib.hid hRi
              have HSj := Lib.hid hSj
              have HOj := Lib.hid hOj
              have HXj := Lib.hid hXj
              have HLj := Lib.hid hLj
              have HYj := Lib.hid hYj
              have HX := Lib.hid hX
              have HM := Lib.hid hm
              obtain ⟨⟨c0, c1, c2, c3, c4, c5, c6, c7, c11⟩, fr⟩ := hSj.cells
              have y1 := hYj.cell 1
              simp only [List.getElem?_toArray, List.getElem?_cons_succ, List.getElem?_cons_zero] at y1
              clear hSi hOi hXi hLi hRi hBi hdr hst b8 hSj hOj hXj hLj hYj hX hm HRi
              go_upto_region 13 with fail
              go_cut [131] from 119 to 131 (fun sv w' => ∃ b, sv = .bool b ∧ Sch k w' (p + Z) (.slice (some ⟨g, 0, none⟩) n' c') (.slice A2 n2 c2') mv rb ro rcap cs2 ws2 s ∧ w'.ownsRow k.B 105 2 (.slice (some ⟨g, 0, none⟩) n' c') ss.next.length (pathCells ss.next) ∧ Blk w' bx #[.int .i64 LO, .int .i64 HI] 102 ∧ Blk w' wr.heap.size #[.int .i64 (m : Int), .int .i64 (st : Int)] 105 ∧ Below k.B w w' ∧ (b = true ↔ s.found = true ∧ s.st < st))
              case first =>
                cases hfd : s.found with
                | false =>
                  rw [hfd] at c5
                  have HFD := Lib.hid hfd
                  clear hfd
                  go_quiet (fail)
                  go_wp2
                  go_meet
                  case rel => exact ⟨false, rfl, HSj.out.same quietB, own_bel HOj.out quietB, HXj.out.below quietB HXj.out.lt, HYj.out.below quietB HYj.out.lt, HLj.out.trans (quietB.mono HSj.out.size), ⟨fun h => (nomatch h), fun h => absurd (HFD.out.symm.trans h.1) (by decide)⟩⟩
                | true =>
                  rw [hfd] at c5
                  have HFD := Lib.hid hfd
                  clear hfd
                  by_cases hsl : s.st < st
                  · have f1 : (s.st : Int) < (st : Int) := by omega
                    have HSL := Lib.hid hsl
                    go_quiet (fail)
                    go_wp2
                    go_meet
                    case rel => exact ⟨true, rfl, HSj.out.same quietB, own_bel HOj.out quietB, HXj.out.below quietB HXj.out.lt, HYj.out.below quietB HYj.out.lt, HLj.out.trans (quietB.mono HSj.out.size), ⟨fun _ => ⟨HFD.out, HSL.out⟩, fun _ => rfl⟩⟩
                  · have f1 : ¬ (s.st : Int) < (st : Int) := by omega
                    have HSL := Lib.hid hsl
                    go_quiet (fail)
                    go_wp2
                    go_meet
                    case rel => exact ⟨false, rfl, HSj.out.same quietB, own_bel HOj.out quietB, HXj.out.below quietB HXj.out.lt, HYj.out.below quietB HYj.out.lt, HLj.out.trans (quietB.mono HSj.out.size), ⟨fun h => (nomatch h), fun h => absurd h.2 HSL.out⟩⟩
              case rest =>
                obtain ⟨b, rfl, hSk, hOk, hXk, hYk, hLk, hb⟩ := hcut
                clear HSj HOj HXj HYj HLj c0 c1 c2 c3 c4 c5 c6 c7 c11 fr y1 hp0 hp1
                cases b with
                | true =>
                  have HE := Lib.hid (And.intro hSk (And.intro hOk (And.intro hLk (hb.1 rfl))))
                  clear hSk hOk hXk hYk hLk hb
                  go_wp2
                  go_roundg (k.s.size + 1 - (p + Z))
                  case measure => omega
                  case rel =>
                    have hO := HE.out.2.1
                    rw [← HN'.out] at hO
                    exact ⟨p + Z, p, n', c', n2, c2', _, A2, cs2, ws2, s, V2, _, by omega, HE.out.1, hO, HRj.out.stop HE.out.2.2.2.1 HE.out.2.2.2.2, HE.out.2.2.1, HBi.out⟩
                | false =>
                  have HNG := Lib.hid (show ¬ (s.found = true ∧ s.st < st) from fun h => nomatch (hb.2 h))
                  have HSk := Lib.hid hSk
                  have HOk := Lib.hid hOk
                  have HXk := Lib.hid hXk
                  have HYk := Lib.hid hYk
                  have HLk := Lib.hid hLk
                  obtain ⟨⟨c0, c1, c2, c3, c4, c5, c6, c7, c11⟩, fr⟩ := hSk.cells
                  have cP2 := hSk.prg.blk.cell 2
                  have y0 := hYk.cell 0
                  have hmC := (List.getElem?_eq_some_iff.1 HX.out).1
                  have m1 : (m : Int) < (k.C.length : Int) := by omega
                  have m2 : ¬ (m : Int) < 0 := by omega
                  have m3 : (0 : Int) ≤ (m : Int) := by omega
                  clear hSk hOk hXk hYk hLk hb
                  go_wp2
                  go_quiet (fail)
                  have HSl := Lib.hid (HSk.out.same (quietB (n := nq)))
                  have HOl := Lib.hid (own_bel HOk.out (quietB (n := nq)))
                  have HXl := Lib.hid (HXk.out.below (quietB (n := nq)) HXk.out.lt)
                  have HYl := Lib.hid (HYk.out.below (quietB (n := nq)) HYk.out.lt)
                  have HLl := Lib.hid (HLk.out.trans ((quietB (n := nq)).mono HSk.out.size))
                  obtain ⟨w14, hw14⟩ : ∃ x, wc.drewN nq = x := ⟨_, rfl⟩
                  rw [hw14] at HSl HOl HXl HYl HLl ⊢
                  have hcf := hF w14 m X CODE HSl.out.prg HX.out hXl (by omega)
                  rw [HCH.out.1, HCH.out.2] at hcf
                  have hfit : (envS k).fit X.kind X.code X.neg X.set p = fitF k.fold k.bytes X.kind X.code X.neg X.set CODE := by
                    show fitF k.fold k.bytes X.kind X.code X.neg X.set (uCod k.s k.bytes p) = _
                    rw [HZ.out.1]
                  obtain ⟨FT, hFT⟩ : ∃ z, fitF k.fold k.bytes X.kind X.code X.neg X.set CODE = z := ⟨_, rfl⟩
                  rw [hFT] at hcf hfit
                  have HFIT := Lib.hid hfit
                  have CF := Lib.hid hcf
                  have x0' := HXl.out.cell 0
                  have x1' := HXl.out.cell 1
                  simp only [List.getElem?_toArray, List.getElem?_cons_succ, List.getElem?_cons_zero] at x0' x1'
                  clear hcf hfit hFT hw14 HSk HOk HXk HYk HLk c0 c1 c2 c3 c4 c5 c6 c7 c11 fr cP2 y0
                  go_wp2_with fail
                  refine CF.out.mono ?_
                  rintro e w15 ⟨rfl, b15⟩
                  have HSm := Lib.hid (HSl.out.same b15)
                  have HOm := Lib.hid (own_bel HOl.out b15)
                  have HXm := Lib.hid (HXl.out.below b15 HXl.out.lt)
                  have HYm := Lib.hid (HYl.out.below b15 HYl.out.lt)
                  have HLm := Lib.hid (HLl.out.trans (b15.mono HSl.out.size))
                  clear b15 HSl HOl HXl HYl HLl CF x0' x1'
                  cases FT with
                  | false =>
                    have HR' := Lib.hid (HRj.out.nofit (rising_env k) HX.out HFIT.out)
                    go_wp2
                    go_roundg (gk - 1)
                    case measure => omega
                    case rel => exact ⟨j + 1, n2, c2', A2, cs2, ws2, s, V2, by go_num, by omega, HSm.out, HOm.out, HXm.out, HLm.out, HR'.out, HBi.out⟩
                  | true =>
                    obtain ⟨sv, wa, wcc, k0, _, _, _, k4, _, hwl, hways⟩ := HSm.out.prg.code.2 m X HX.out
                    have hwn := (K.ins m X HX.out).2 hXl
                    obtain ⟨m0, hm0⟩ : ∃ m0, X.ways[0]? = some m0 := ⟨_, List.getElem?_eq_getElem (List.length_pos_iff.2 hwn)⟩
                    obtain ⟨hb, e, hbl, hc⟩ := hways 0 m0 hm0
                    subst e
                    have hm0C := (K.ins m X HX.out).1 m0 (List.mem_of_getElem? hm0)
                    have HHD := Lib.hid (show X.ways.head? = some m0 by rw [List.head?_eq_getElem?]; exact hm0)
                    have hL0 := List.length_pos_iff.2 hwn
                    obtain ⟨L, hLL⟩ : ∃ L, X.ways.length = L := ⟨_, rfl⟩
                    rw [hLL] at k4 hwl hL0
                    have l1 : (0 : Int) < (L : Int) := by omega
                    have y1 := HYm.out.cell 1
                    simp only [List.getElem?_toArray, List.getElem?_cons_succ, List.getElem?_cons_zero] at y1
                    have HS16 := Lib.hid (HSm.out.same (w' := w15.drew) ⟨rfl, rfl, rfl, Nat.le_refl _, fun _ _ => rfl⟩)
                    have HO16 := Lib.hid (own_bel (w' := w15.drew) HOm.out ⟨rfl, rfl, rfl, Nat.le_refl _, fun _ _ => rfl⟩)
                    have HX16 := Lib.hid (HXm.out.below (W' := w15.drew) ⟨rfl, rfl, rfl, Nat.le_refl _, fun _ _ => rfl⟩ HXm.out.lt)
                    have HL16 := Lib.hid (HLm.out.trans (Below.mono (w' := w15.drew) ⟨rfl, rfl, rfl, Nat.le_refl _, fun _ _ => rfl⟩ HSm.out.size))
                    have CFo := Lib.hid (follow_any k K (envS k) rfl (unset ws2 k.C.length + 1) w15.drew (p + Z) _ _ mv rb ro rcap cs2 ws2 s m0 st HS16.out hm0C (Nat.lt_succ_self _) hstb (own_at HO16.out) (by have := HBi.out; omega))
                    clear hways hwl hwn hm0 hLL k0
                    go_wp2
                    go_still_tail 9, (by kernel_rfl)
                    change wpList _ _ _ _ _ w15.drew
                    generalize w15.drew = w16 at *
                    go_wp2_with fail
                    refine CFo.out.mono ?_
                    rintro e w17 ⟨⟨rv17, rfl⟩, ⟨nv17, cs17, ws17, s17, hS17, hF17, hc17, hz17, hl17, hv17⟩, hb17, hn17⟩
                    obtain ⟨V17, hV17⟩ := HRj.out.fits (rising_env k) HX.out hXl HFIT.out HHD.out HNG.out hF17
                    obtain ⟨A17, c17, rfl⟩ := own_slice hS17.nx
                    have HE := Lib.hid (And.intro hS17 (And.intro (own_keep HO16.out (own_frame3 HO16.out HS16.out hn17)) (And.intro (blk_frame3 HX16.out (by decide) (by decide) (by decide) HS16.out hn17) (And.intro (HL16.out.trans hb17) (And.intro hV17 (Nat.le_trans hl17 HBi.out))))))
                    clear hS17 hF17 hc17 hz17 hl17 hv17 hb17 hn17 hV17 HSm HOm HXm HYm HLm HS16 HO16 HX16 HL16 CFo
                    go_wp2
                    go_roundg (gk - 1)
                    case measure => omega
                    case rel => exact ⟨j + 1, _, c17, A17, cs17, ws17, s17, V17, by go_num, by omega, HE.out.1, HE.out.2.1, HE.out.2.2.1, HE.out.2.2.2.1, HE.out.2.2.2.2.1, HE.out.2.2.2.2.2⟩
            · have HE := Lib.hid (And.intro hSi (And.intro hOi (And.intro hLi (show Srch (envS k) k.C (fun _ _ => False) o k.first p (p + Z) (p + Z) [] s V2 by rw [List.drop_of_length_le (by rw [← HN'.out]; omega)] at hRi; exact hRi))))
              obtain rfl : j = n' := by omega
              clear hSi hOi hXi hLi hRi hBi HRi
              go_wp2
              go_roundg (k.s.size + 1 - (p + Z))
              case measure => omega
              case rel =>
                have hO := HE.out.2.1
                rw [← HN'.out] at hO
                exact ⟨p + Z, p, j, c', n2, c2', _, A2, cs2, ws2, s, V2, _, by omega, HE.out.1, hO, HE.out.2.2.2, HE.out.2.2.1, HBi.out⟩
end Go.Proofs.YtdfacbcenogplaaDoor

namespace Go.Proofs.YtdfacbcenogplaaDoor
open Go.RowKit Go.Lib Go.Maps Go.Sort

theorem nfa_compare (x y : Int) (W : World) : Calls Tryd.prog 114 #[.int .i64 x, .int .i64 y] W fun e w' => e = .returned (.int .i64 (if x < y then -1 else if y < x then 1 else 0)) ∧ W = w' := by
  have CN : ∀ (x : Int) (W : World), Calls Tryd.prog 129 #[.int .i64 x] W fun e w' => e = .returned (.bool false) ∧ W = w' := fun x W => by
    go_enter Tryd.func129, Tryd.ntmps129
    go_wp2_with fail
    go_ret
    exact ⟨by simp, rfl⟩
  have CN := Lib.hid CN
  by_cases h1 : x < y
  · rw [if_pos h1]
    go_enter Tryd.func114, Tryd.ntmps114
    go_wp2_with (go_at_call 129; refine (CN.out _ _).mono ?_; rintro e w' ⟨rfl, rfl⟩)
    go_ret
    exact ⟨rfl, rfl⟩
  · rw [if_neg h1]
    by_cases h2 : y < x
    · rw [if_pos h2]
      go_enter Tryd.func114, Tryd.ntmps114
      go_wp2_with (go_at_call 129; refine (CN.out _ _).mono ?_; rintro e w' ⟨rfl, rfl⟩)
      go_ret
      exact ⟨rfl, rfl⟩
    · rw [if_neg h2]
      go_enter Tryd.func114, Tryd.ntmps114
      go_wp2_with (go_at_call 129; refine (CN.out _ _).mono ?_; rintro e w' ⟨rfl, rfl⟩)
      go_ret
      exact ⟨rfl, rfl⟩
/-- How a range lies to a code. -/
def cmpR (r : Int × Int) (c : Int) : Int := if r.1 ≤ c ∧ c ≤ r.2 then 0 else if r.1 < c then -1 else if c < r.1 then 1 else 0
/-- Ranges that rise, and none is empty. -/
def NRise (set : List (Int × Int)) : Prop := (∀ r ∈ set, r.1 ≤ r.2) ∧ set.Pairwise (fun a b => a.2 < b.1)
theorem cmpR_neg {r : Int × Int} {c : Int} (h : r.1 ≤ r.2) : cmpR r c < 0 ↔ r.2 < c := by
  unfold cmpR
  split
  · omega
  · split
    · omega
    · split <;> omega
theorem cmpR_zero {r : Int × Int} {c : Int} (h : r.1 ≤ r.2) : cmpR r c = 0 ↔ r.1 ≤ c ∧ c ≤ r.2 := by
  unfold cmpR
  split
  · omega
  · split
    · omega
    · split <;> omega
theorem NRise.at {set : List (Int × Int)} (h : NRise set) {i j : Nat} {a b : Int × Int} (hi : set[i]? = some a) (hj : set[j]? = some b) (hij : i < j) : a.2 < b.1 := by
  obtain ⟨h1, e1⟩ := List.getElem?_eq_some_iff.1 hi
  obtain ⟨h2, e2⟩ := List.getElem?_eq_some_iff.1 hj
  have := (List.pairwise_iff_getElem.1 h.2) i j h1 h2 hij
  rw [e1, e2] at this
  exact this
/-- Where the first range that isn't ahead of a code stands: it alone can hold it. -/
theorem inR_at {set : List (Int × Int)} (h : NRise set) {c : Int} {i : Nat} (hi : i ≤ set.length) (hl : ∀ (t : Nat) r, t < i → set[t]? = some r → r.2 < c) (hu : ∀ (t : Nat) r, i ≤ t → set[t]? = some r → ¬ r.2 < c) :
    inR set c = match set[i]? with | some r => decide (cmpR r c = 0) | none => false := by
  unfold inR
  cases q : set[i]? with
  | none =>
    have hn : set.length ≤ i := List.getElem?_eq_none_iff.1 q
    rw [List.any_eq_false]
    intro r hr
    obtain ⟨t, ht, e⟩ := List.getElem_of_mem hr
    have h1 := hl t r (by omega) (by rw [← e]; exact List.getElem?_eq_getElem ht)
    simp
    omega
  | some r =>
    have hr := List.mem_of_getElem? q
    refine Bool.eq_iff_iff.2 ?_
    rw [List.any_eq_true]
    simp only [decide_eq_true_eq]
    rw [cmpR_zero (h.1 r hr)]
    constructor
    · rintro ⟨y, hy, h1⟩
      obtain ⟨t, ht, e⟩ := List.getElem_of_mem hy
      have hyt : set[t]? = some y := by rw [← e]; exact List.getElem?_eq_getElem ht
      rcases Nat.lt_trichotomy t i with h2 | h2 | h2
      · have := hl t y h2 hyt
        omega
      · subst h2
        rw [q] at hyt
        cases hyt
        exact h1
      · have := h.at q hyt h2
        have := hu i r (Nat.le_refl _) q
        omega
    · intro h1
      exact ⟨r, hr, h1⟩
theorem hasCmp_any (r : Int × Int) (c : Int) (W : World) : Calls Tryd.prog 113 #[.agg #[.int .i64 r.1, .int .i64 r.2], .int .i64 c] W fun e w' => e = .returned (.int .i64 (cmpR r c)) ∧ Below W.heap.size W w' := by
  obtain ⟨a, b⟩ := r
  have hcon := fun W' => nfa_compare a c W'
  have HC := Lib.hid hcon
  clear hcon
  by_cases h1 : a ≤ c
  · by_cases h2 : c ≤ b
    · have e : cmpR (a, b) c = 0 := if_pos ⟨h1, h2⟩
      rw [e]
      clear e
      go_enter Tryd.func113, Tryd.ntmps113
      go_wp2_with fail
      go_ret
      exact ⟨rfl, (Below.refl _ _).alloc (Nat.le_refl _) _⟩
    · have e : cmpR (a, b) c = if a < c then -1 else if c < a then 1 else 0 := by unfold cmpR; rw [if_neg (by simp; omega)]
      rw [e]
      clear e
      generalize (if a < c then (-1 : Int) else if c < a then 1 else 0) = R at *
      go_enter Tryd.func113, Tryd.ntmps113
      go_wp2_with (go_at_call 114; refine (HC.out _).mono ?_; rintro e w' ⟨rfl, rfl⟩)
      go_ret
      exact ⟨rfl, (Below.refl _ _).alloc (Nat.le_refl _) _⟩
  · have e : cmpR (a, b) c = if a < c then -1 else if c < a then 1 else 0 := by unfold cmpR; rw [if_neg (by simp; omega)]
    rw [e]
    clear e
    generalize (if a < c then (-1 : Int) else if c < a then 1 else 0) = R at *
    go_enter Tryd.func113, Tryd.ntmps113
    go_wp2_with (go_at_call 114; refine (HC.out _).mono ?_; rintro e w' ⟨rfl, rfl⟩)
    go_ret
    exact ⟨rfl, (Below.refl _ _).alloc (Nat.le_refl _) _⟩
theorem search_any (set : List (Int × Int)) (hR : NRise set) (c : Int) {w : World} {P : Nat → Prop} {v : Value} (h : RgIn w P set v) : Calls Tryd.prog 112 #[v, .int .i64 c, .func (.func 113) #[] #[]] w fun e w' => (∃ i : Nat, e = .returned (.tuple #[.int .i64 (i : Int), .bool (inR set c)])) ∧ Below w.heap.size w w' := by
  have eg : ∀ args w, (callFunc 113 args).run Tryd.prog w = .ok (.enter 113 args) w := enters_of Tryd.func113 (by kernel_rfl) rfl
  obtain ⟨A, cap, rfl, hn, hc⟩ := h
  have HC := Lib.hid hc
  have CMP := Lib.hid (fun r W => hasCmp_any r c W)
  obtain ⟨N, hN⟩ : ∃ N, set.length = N := ⟨_, rfl⟩
  have HN := Lib.hid hN
  rw [hN] at hn ⊢
  clear hc hN
  go_enter Tryd.func112, Tryd.ntmps112
  go_wp2
  go_loopg [9, 10] N (fun kx s9 s10 wr => ∃ lo hi : Nat, s9 = .int .i64 (lo : Int) ∧ s10 = .int .i64 (hi : Int) ∧ lo ≤ hi ∧ hi ≤ N ∧ hi - lo ≤ kx ∧ Hid (Below w.heap.size w wr) ∧
    Hid ((∀ (t : Nat) r, t < lo → set[t]? = some r → r.2 < c) ∧ (∀ (t : Nat) r, hi ≤ t → set[t]? = some r → ¬ r.2 < c)))
  case atStart => exact ⟨0, N, rfl, rfl, Nat.zero_le _, Nat.le_refl _, by omega, Lib.hid (Below.refl _ _), Lib.hid ⟨fun t r ht => absurd ht (Nat.not_lt_zero _), fun t r ht hr => by have := (List.getElem?_eq_some_iff.1 hr).1; have := HN.out; omega⟩⟩
  case round =>
    obtain ⟨lo, hi, rfl, rfl, hlh, hin, hg, S1, I⟩ := hrel
    by_cases hlt : lo < hi
    · obtain ⟨r, hr⟩ : ∃ r, set[(lo + hi) / 2]? = some r := ⟨_, List.getElem?_eq_getElem (by rw [HN.out]; omega)⟩
      obtain ⟨g, e, _, r0, r1⟩ := HC.out _ r hr
      subst e
      have hgl := World.block_lt_of_cell? w _ r0
      have r0 := (S1.out.cell (p := ⟨g, (lo + hi) / 2 * 2, none⟩) hgl).trans r0
      have r1 := (S1.out.cell (p := ⟨g, (lo + hi) / 2 * 2 + 1, none⟩) hgl).trans r1
      have hrr := hR.1 r (List.mem_of_getElem? hr)
      have HR := Lib.hid hr
      have CM := Lib.hid (CMP.out r wr)
      obtain ⟨ra, rb⟩ := r
      clear hr hgl
      by_cases hneg : cmpR (ra, rb) c < 0
      · have HNEG := Lib.hid ((cmpR_neg hrr).1 hneg)
        clear hrr
        go_wp2_with (go_at_fn 113; refine CM.out.mono ?_; rintro e w' ⟨rfl, hb⟩)
        have S2 := Lib.hid (S1.out.trans (hb.mono S1.out.size))
        have I2 : Hid ((∀ (t : Nat) r, t < (lo + hi) / 2 + 1 → set[t]? = some r → r.2 < c) ∧ (∀ (t : Nat) r, hi ≤ t → set[t]? = some r → ¬ r.2 < c)) := Lib.hid ⟨fun t r ht hr => by
          rcases Nat.lt_or_ge t ((lo + hi) / 2) with q | q
          · have := hR.at hr HR.out q
            have := (hR.1 (ra, rb) (List.mem_of_getElem? HR.out))
            have := HNEG.out
            simp only at *
            omega
          · obtain rfl : t = (lo + hi) / 2 := by omega
            have h2 := HR.out
            rw [hr] at h2
            cases h2
            exact HNEG.out, fun t r ht hr => by have := I.out.2 t r ht hr; omega⟩
        clear hb
        go_roundg (hi - ((lo + hi) / 2 + 1))
        case measure => omega
        case rel => exact ⟨(lo + hi) / 2 + 1, hi, by rw [show ((lo : Int) + (hi : Int)) / 2 + 1 = (((lo + hi) / 2 + 1 : Nat) : Int) by omega], rfl, by omega, hin, Nat.le_refl _, S2, by simpa only [Int.not_lt] using I2⟩
      · have HNEG := Lib.hid (fun h => hneg ((cmpR_neg hrr).2 h))
        clear hrr
        go_wp2_with (go_at_fn 113; refine CM.out.mono ?_; rintro e w' ⟨rfl, hb⟩)
        have S2 := Lib.hid (S1.out.trans (hb.mono S1.out.size))
        have I2 : Hid ((∀ (t : Nat) r, t < lo → set[t]? = some r → r.2 < c) ∧ (∀ (t : Nat) r, (lo + hi) / 2 ≤ t → set[t]? = some r → ¬ r.2 < c)) := Lib.hid ⟨I.out.1, fun t r ht hr => by
          rcases Nat.lt_or_ge ((lo + hi) / 2) t with q | q
          · have := hR.at HR.out hr q
            have := (hR.1 r (List.mem_of_getElem? hr))
            have h3 := HNEG.out
            intro h4
            apply h3
            simp only at *
            omega
          · obtain rfl : t = (lo + hi) / 2 := by omega
            have h2 := HR.out
            rw [hr] at h2
            cases h2
            exact HNEG.out⟩
        clear hb
        go_roundg ((lo + hi) / 2 - lo)
        case measure => omega
        case rel => exact ⟨lo, (lo + hi) / 2, rfl, by rw [show ((lo : Int) + (hi : Int)) / 2 = (((lo + hi) / 2 : Nat) : Int) by omega], by omega, by omega, Nat.le_refl _, S2, by simpa only [Int.not_lt] using I2⟩
    · obtain rfl : hi = lo := by omega
      have HIN := Lib.hid (inR_at hR (by rw [HN.out]; exact hin) I.out.1 I.out.2)
      by_cases hn : hi < N
      · obtain ⟨r, hr⟩ : ∃ r, set[hi]? = some r := ⟨_, List.getElem?_eq_getElem (by rw [HN.out]; exact hn)⟩
        obtain ⟨g, e, _, r0, r1⟩ := HC.out _ r hr
        subst e
        have hgl := World.block_lt_of_cell? w _ r0
        have r0 := (S1.out.cell (p := ⟨g, hi * 2, none⟩) hgl).trans r0
        have r1 := (S1.out.cell (p := ⟨g, hi * 2 + 1, none⟩) hgl).trans r1
        have CM := Lib.hid (CMP.out r wr)
        have HE := Lib.hid (show inR set c = decide (cmpR r c = 0) by rw [HIN.out, hr])
        obtain ⟨ra, rb⟩ := r
        generalize cmpR (ra, rb) c = K at *
        clear hr hgl HIN
        by_cases hK : K = 0
        · have HE2 := Lib.hid (show inR set c = true by rw [HE.out]; exact decide_eq_true hK)
          subst hK
          go_wp2_with (go_at_fn 113; refine CM.out.mono ?_; rintro e w' ⟨rfl, hb⟩)
          go_ret2
          exact ⟨⟨hi, by rw [HE2.out]; rfl⟩, S1.out.trans (hb.mono S1.out.size)⟩
        · have HE2 := Lib.hid (show inR set c = false by rw [HE.out]; exact decide_eq_false hK)
          have hKb : (K == 0) = false := beq_eq_false_iff_ne.2 hK
          go_wp2_with (go_at_fn 113; refine CM.out.mono ?_; rintro e w' ⟨rfl, hb⟩)
          go_ret2
          exact ⟨⟨hi, by rw [HE2.out]; rfl⟩, S1.out.trans (hb.mono S1.out.size)⟩
      · have HE2 := Lib.hid (show inR set c = false by rw [HIN.out, List.getElem?_eq_none (by rw [HN.out]; omega)])
        clear HIN
        go_wp2_with fail
        go_ret2
        exact ⟨⟨hi, by rw [HE2.out]; rfl⟩, S1.out⟩
theorem has_any (set : List (Int × Int)) (hR : NRise set) (c : Int) {w : World} {P : Nat → Prop} {v : Value} (h : RgIn w P set v) : Calls Tryd.prog 88 #[v, .int .i64 c] w fun e w' => e = .returned (.bool (inR set c)) ∧ Below w.heap.size w w' := by
  have CS := Lib.hid (search_any set hR c h)
  clear h
  go_enter Tryd.func88, Tryd.ntmps88
  go_wp2_with fail
  refine CS.out.mono ?_
  rintro e w' ⟨⟨i, rfl⟩, hb⟩
  go_wp2
  go_ret
  exact ⟨rfl, hb⟩
theorem fits_any (k : SCon) (hR : ∀ (i : Nat) (x : Ins), k.C[i]? = some x → NRise x.set) : FitsOK k := fun w i x c hP hx hl hc => by
  obtain ⟨sv, wa, wcc, k0, k1, k2, k3, k4, hset, _, _⟩ := hP.code.2 i x hx
  have hi := (List.getElem?_eq_some_iff.1 hx).1
  have hset2 := hR i x hx
  obtain ⟨LO, hLO⟩ : ∃ z, chLow k.fold k.bytes (c : Int) = z := ⟨_, rfl⟩
  obtain ⟨HI, hHI⟩ : ∃ z, chCap k.fold k.bytes (c : Int) = z := ⟨_, rfl⟩
  obtain ⟨R, hRR⟩ : ∃ z, fitF k.fold k.bytes x.kind x.code x.neg x.set c = z := ⟨_, rfl⟩
  have hRR2 := hRR
  unfold fitF at hRR2
  rw [hLO, hHI] at hRR2
  rw [hRR, hLO, hHI]
  clear hLO hHI hRR
  obtain ⟨kind, code, neg, set, ways⟩ := x
  simp only at k0 k1 k2 k3 hRR2 hset hset2 hl
  have q0 := (Below.cell ((Below.refl w.heap.size w).alloc (Nat.le_refl _) (.cells #[.int .i64 LO, .int .i64 HI] 102)) (p := ⟨k.cb, i * 5, none⟩) (lt_of_cell k0)).trans k0
  have q1 := (Below.cell ((Below.refl w.heap.size w).alloc (Nat.le_refl _) (.cells #[.int .i64 LO, .int .i64 HI] 102)) (p := ⟨k.cb, i * 5 + 1, none⟩) (lt_of_cell k1)).trans k1
  have q2 := (Below.cell ((Below.refl w.heap.size w).alloc (Nat.le_refl _) (.cells #[.int .i64 LO, .int .i64 HI] 102)) (p := ⟨k.cb, i * 5 + 2, none⟩) (lt_of_cell k2)).trans k2
  have q3 := (Below.cell ((Below.refl w.heap.size w).alloc (Nat.le_refl _) (.cells #[.int .i64 LO, .int .i64 HI] 102)) (p := ⟨k.cb, i * 5 + 3, none⟩) (lt_of_cell k3)).trans k3
  have hX : Blk (w.alloc (.cells #[.int .i64 LO, .int .i64 HI] 102)) w.heap.size #[.int .i64 LO, .int .i64 HI] 102 := Blk.new _ _ _
  have b0 := hX.cell 0
  have b1 := hX.cell 1
  simp only [List.getElem?_toArray, List.getElem?_cons_succ, List.getElem?_cons_zero] at b0 b1
  rcases hl with rfl | rfl | rfl
  · rw [if_pos rfl] at hRR2
    have HR2 := Lib.hid hRR2
    clear hRR2 hP hx hset k4 hi hset2 hX k0 k1 k2 k3
    go_enter Tryd.func52, Tryd.ntmps52
    go_wp2_with fail
    go_quiet (fail)
    go_wp2
    go_ret
    refine ⟨?_, ((Below.refl _ _).alloc (Nat.le_refl _) _).trans (quietB.mono (by simp))⟩
    rw [← HR2.out]
    by_cases e : LO = code <;> simp [e]
  · rw [if_neg (by decide), if_neg (by decide)] at hRR2
    have HR2 := Lib.hid hRR2
    clear hRR2 hP hx hset k4 hi hset2 hX k0 k1 k2 k3
    go_enter Tryd.func52, Tryd.ntmps52
    go_wp2_with fail
    go_ret
    refine ⟨?_, (Below.refl _ _).alloc (Nat.le_refl _) _⟩
    rw [← HR2.out]
    rfl
  · rw [if_neg (by decide), if_pos rfl] at hRR2
    have hW := (Below.refl w.heap.size w).alloc (Nat.le_refl _) (.cells #[.int .i64 LO, .int .i64 HI] 102)
    obtain ⟨W1, hW1⟩ : ∃ x, w.alloc (.cells #[.int .i64 LO, .int .i64 HI] 102) = x := ⟨_, rfl⟩
    rw [hW1] at hW q0 q1 q2 q3 b0 b1
    have KP := Lib.hid (fun (Y : World) (hb : Below W1.heap.size W1 Y) => show Y.cell? ⟨k.cb, i * 5 + 2, none⟩ = some (.bool neg) ∧ Y.cell? ⟨k.cb, i * 5 + 3, none⟩ = some sv ∧ Y.cell? ⟨w.heap.size, 1, none⟩ = some (.int .i64 HI) ∧ Y.cell? ⟨w.heap.size, 0, none⟩ = some (.int .i64 LO) from
      ⟨(hb.cell (p := ⟨k.cb, i * 5 + 2, none⟩) (lt_of_cell q2)).trans q2, (hb.cell (p := ⟨k.cb, i * 5 + 3, none⟩) (lt_of_cell q3)).trans q3, (hb.cell (p := ⟨w.heap.size, 1, none⟩) (lt_of_cell b1)).trans b1, (hb.cell (p := ⟨w.heap.size, 0, none⟩) (lt_of_cell b0)).trans b0⟩)
    have hch : ∀ Y, Below W1.heap.size W1 Y → ∀ c' : Int, Calls Tryd.prog 88 #[sv, .int .i64 c'] Y fun e w' => e = .returned (.bool (inR set c')) ∧ Below Y.heap.size Y w' := fun Y hb c' =>
      has_any set hset2 c' (hset.kept (P' := fun b => b < k.B) fun g hg hp => ⟨hp, (hW.trans (hb.mono hW.size)).block g hg⟩)
    have HW := Lib.hid hW
    clear hP hx hset k4 hi hset2 hX k0 k1 k2 k3 hW
    obtain ⟨B1, hB1⟩ : ∃ z, inR set LO = z := ⟨_, rfl⟩
    rw [hB1] at hRR2
    cases B1 with
    | true =>
      have CL := Lib.hid (hch W1.drew ⟨rfl, rfl, rfl, Nat.le_refl _, fun _ _ => rfl⟩ LO)
      rw [hB1] at CL
      have HR2 := Lib.hid hRR2
      clear hch hRR2 hB1
      go_enter Tryd.func52, Tryd.ntmps52
      go_wp2_with fail
      refine wp_region_noPanic ?_
      refine wp_region_held_drew (S := fun w' => w'.cell? ⟨k.cb, i * 5 + 2, none⟩ = some (.bool neg) ∧ w'.cell? ⟨k.cb, i * 5 + 3, none⟩ = some sv ∧ w'.cell? ⟨w.heap.size, 1, none⟩ = some (.int .i64 HI) ∧ w'.cell? ⟨w.heap.size, 0, none⟩ = some (.int .i64 LO)) (by kernel_rfl) (KP.out _ ⟨rfl, rfl, rfl, Nat.le_refl _, fun _ _ => rfl⟩) (fun hHeld => ?_)
      refine wpAnyH_take (i := 0) (oi := ({ dst := some 20, op := Op.move (Operand.tmp 0), type := 106, pos := "nfa.go:143", after := #[], guard := none } : Oper)) (v := ?_) rfl (by kernel_rfl) (by kernel_rfl) (by kernel_rfl) (fun _ _ _ h => h) (Or.inl ⟨by rfl, ?_⟩) (by assumption) ?_
      rotate_left
      · intro w' hSw
        try dsimp only at hSw
        go_simp
        try with_reducible rfl
      try simp only [Act.put, List.setIfInBounds_toArray, List.set_cons_zero, List.set_cons_succ]
      refine wpAnyH_take (i := 1) (oi := ({ dst := some 21, op := Op.nilCheck (Operand.tmp 20), type := 0, pos := "nfa.go:143", after := #[{ on := 0, ground := Ground.data }], guard := none } : Oper)) (v := ?_) rfl (by kernel_rfl) (by kernel_rfl) (by kernel_rfl) (fun _ _ _ h => h) (Or.inl ⟨by rfl, ?_⟩) (by assumption) ?_
      rotate_left
      · intro w' hSw
        try dsimp only at hSw
        go_simp
        try with_reducible rfl
      try simp only [Act.put, List.setIfInBounds_toArray, List.set_cons_zero, List.set_cons_succ]
      refine wpAnyH_take (i := 2) (oi := ({ dst := some 22, op := Op.fieldAddr 91 (Operand.tmp 21) 3, type := 0, pos := "nfa.go:143", after := #[{ on := 1, ground := Ground.data }], guard := none } : Oper)) (v := ?_) rfl (by kernel_rfl) (by kernel_rfl) (by kernel_rfl) (fun _ _ _ h => h) (Or.inl ⟨by rfl, ?_⟩) (by assumption) ?_
      rotate_left
      · intro w' hSw
        try dsimp only at hSw
        go_simp
        try with_reducible rfl
      try simp only [Act.put, List.setIfInBounds_toArray, List.set_cons_zero, List.set_cons_succ]
      refine wpAnyH_take (i := 3) (oi := ({ dst := some 23, op := Op.load 55 (Operand.tmp 22), type := 55, pos := "nfa.go:143", after := #[{ on := 2, ground := Ground.data }], guard := none } : Oper)) (v := ?_) rfl (by kernel_rfl) (by kernel_rfl) (by kernel_rfl) (fun _ _ _ h => h) (Or.inl ⟨by rfl, ?_⟩) (by assumption) ?_
      rotate_left
      · intro w' hSw
        try dsimp only at hSw
        go_simp
        try with_reducible rfl
      try simp only [Act.put, List.setIfInBounds_toArray, List.set_cons_zero, List.set_cons_succ]
      refine wpAnyH_take (i := 4) (oi := ({ dst := some 24, op := Op.fieldAddr 102 (Operand.tmp 3) 0, type := 0, pos := "nfa.go:143", after := #[], guard := none } : Oper)) (v := ?_) rfl (by kernel_rfl) (by kernel_rfl) (by kernel_rfl) (fun _ _ _ h => h) (Or.inl ⟨by rfl, ?_⟩) (by assumption) ?_
      rotate_left
      · intro w' hSw
        try dsimp only at hSw
        go_simp
        try with_reducible rfl
      try simp only [Act.put, List.setIfInBounds_toArray, List.set_cons_zero, List.set_cons_succ]
      refine wpAnyH_take (i := 5) (oi := ({ dst := some 25, op := Op.load 3 (Operand.tmp 24), type := 3, pos := "nfa.go:143", after := #[{ on := 4, ground := Ground.data }], guard := none } : Oper)) (v := ?_) rfl (by kernel_rfl) (by kernel_rfl) (by kernel_rfl) (fun _ _ _ h => h) (Or.inl ⟨by rfl, ?_⟩) (by assumption) ?_
      rotate_left
      · intro w' hSw
        try dsimp only at hSw
        go_simp
        try with_reducible rfl
      try simp only [Act.put, List.setIfInBounds_toArray, List.set_cons_zero, List.set_cons_succ]
      refine wpAnyH_take (i := 16) (oi := ({ dst := some 36, op := Op.move (Operand.tmp 0), type := 106, pos := "nfa.go:143", after := #[], guard := none } : Oper)) (v := ?_) rfl (by kernel_rfl) (by kernel_rfl) (by kernel_rfl) (fun _ _ _ h => h) (Or.inl ⟨by rfl, ?_⟩) (by assumption) ?_
      rotate_left
      · intro w' hSw
        try dsimp only at hSw
        go_simp
        try with_reducible rfl
      try simp only [Act.put, List.setIfInBounds_toArray, List.set_cons_zero, List.set_cons_succ]
      refine wpAnyH_take (i := 17) (oi := ({ dst := some 37, op := Op.nilCheck (Operand.tmp 36), type := 0, pos := "nfa.go:143", after := #[{ on := 16, ground := Ground.data }], guard := none } : Oper)) (v := ?_) rfl (by kernel_rfl) (by kernel_rfl) (by kernel_rfl) (fun _ _ _ h => h) (Or.inl ⟨by rfl, ?_⟩) (by assumption) ?_
      rotate_left
      · intro w' hSw
        try dsimp only at hSw
        go_simp
        try with_reducible rfl
      try simp only [Act.put, List.setIfInBounds_toArray, List.set_cons_zero, List.set_cons_succ]
      refine wpAnyH_take (i := 18) (oi := ({ dst := some 38, op := Op.fieldAddr 91 (Operand.tmp 37) 2, type := 0, pos := "nfa.go:143", after := #[{ on := 17, ground := Ground.data }], guard := none } : Oper)) (v := ?_) rfl (by kernel_rfl) (by kernel_rfl) (by kernel_rfl) (fun _ _ _ h => h) (Or.inl ⟨by rfl, ?_⟩) (by assumption) ?_
      rotate_left
      · intro w' hSw
        try dsimp only at hSw
        go_simp
        try with_reducible rfl
      try simp only [Act.put, List.setIfInBounds_toArray, List.set_cons_zero, List.set_cons_succ]
      refine wpAnyH_take (i := 19) (oi := ({ dst := some 39, op := Op.load 4 (Operand.tmp 38), type := 4, pos := "nfa.go:143", after := #[{ on := 18, ground := Ground.data }], guard := none } : Oper)) (v := ?_) rfl (by kernel_rfl) (by kernel_rfl) (by kernel_rfl) (fun _ _ _ h => h) (Or.inl ⟨by rfl, ?_⟩) (by assumption) ?_
      rotate_left
      · intro w' hSw
        try dsimp only at hSw
        go_simp
        try with_reducible rfl
      try simp only [Act.put, List.setIfInBounds_toArray, List.set_cons_zero, List.set_cons_succ]
      refine wpAnyH_ready (rs := [6]) (by kernel_rfl) (by simp) ?_
      refine AllReadyH.cons (o := ({ dst := some 26, op := Op.call { callee := Callee.value (Operand.func 88), args := #[Operand.tmp 23, Operand.tmp 25], argTypes := #[55, 3] }, type := 4, pos := "nfa.go:143", after := #[{ on := 3, ground := Ground.data }, { on := 5, ground := Ground.data }], guard := none } : Oper)) rfl (fun K hK => ?_) AllReadyH.nil
      go_simp
      refine CL.out.mono ?_
      rintro e X6 ⟨rfl, h⟩
      have b6 : Below W1.heap.size W1 X6 := ⟨h.os, h.tape, h.output, h.size, h.block⟩
      have S6 := KP.out _ b6
      clear h
      go_wp2_with fail
      refine hK.out _ _ (S6) (fun hHeld => ?_)
      clear hK K
      try simp only [Act.put, List.setIfInBounds_toArray, List.set_cons_zero, List.set_cons_succ]
      refine wpAnyH_take (i := 7) (oi := ({ dst := some 27, op := Op.move (Operand.tmp 26), type := 4, pos := "nfa.go:143", after := #[{ on := 6, ground := Ground.data }, { on := 6, ground := Ground.chain }], guard := none } : Oper)) (v := ?_) rfl (by kernel_rfl) (by kernel_rfl) (by kernel_rfl) (fun _ _ _ h => h) (Or.inl ⟨by rfl, ?_⟩) (by assumption) ?_
      rotate_left
      · intro w' hSw
        try dsimp only at hSw
        go_simp
        try with_reducible rfl
      try simp only [Act.put, List.setIfInBounds_toArray, List.set_cons_zero, List.set_cons_succ]
      refine wpAnyH_take (i := 8) (oi := ({ dst := some 28, op := Op.move (Operand.tmp 0), type := 106, pos := "nfa.go:143", after := #[{ on := 7, ground := Ground.guard }], guard := some (7, false) } : Oper)) (v := undef) rfl (by kernel_rfl) (by kernel_rfl) (by kernel_rfl) (fun _ _ _ h => h) (Or.inr ⟨by rfl, rfl⟩) (by assumption) ?_
      try simp only [Act.put, List.setIfInBounds_toArray, List.set_cons_zero, List.set_cons_succ]
      refine wpAnyH_take (i := 9) (oi := ({ dst := some 29, op := Op.nilCheck (Operand.tmp 28), type := 0, pos := "nfa.go:143", after := #[{ on := 8, ground := Ground.data }, { on := 7, ground := Ground.guard }], guard := some (7, false) } : Oper)) (v := undef) rfl (by kernel_rfl) (by kernel_rfl) (by kernel_rfl) (fun _ _ _ h => h) (Or.inr ⟨by rfl, rfl⟩) (by assumption) ?_
      try simp only [Act.put, List.setIfInBounds_toArray, List.set_cons_zero, List.set_cons_succ]
      refine wpAnyH_take (i := 10) (oi := ({ dst := some 30, op := Op.fieldAddr 91 (Operand.tmp 29) 3, type := 0, pos := "nfa.go:143", after := #[{ on := 9, ground := Ground.data }, { on := 7, ground := Ground.guard }], guard := some (7, false) } : Oper)) (v := undef) rfl (by kernel_rfl) (by kernel_rfl) (by kernel_rfl) (fun _ _ _ h => h) (Or.inr ⟨by rfl, rfl⟩) (by assumption) ?_
      try simp only [Act.put, List.setIfInBounds_toArray, List.set_cons_zero, List.set_cons_succ]
      refine wpAnyH_take (i := 11) (oi := ({ dst := some 31, op := Op.load 55 (Operand.tmp 30), type := 55, pos := "nfa.go:143", after := #[{ on := 10, ground := Ground.data }, { on := 7, ground := Ground.guard }], guard := some (7, false) } : Oper)) (v := undef) rfl (by kernel_rfl) (by kernel_rfl) (by kernel_rfl) (fun _ _ _ h => h) (Or.inr ⟨by rfl, rfl⟩) (by assumption) ?_
      try simp only [Act.put, List.setIfInBounds_toArray, List.set_cons_zero, List.set_cons_succ]
      refine wpAnyH_take (i := 12) (oi := ({ dst := some 32, op := Op.fieldAddr 102 (Operand.tmp 3) 1, type := 0, pos := "nfa.go:143", after := #[{ on := 7, ground := Ground.guard }], guard := some (7, false) } : Oper)) (v := undef) rfl (by kernel_rfl) (by kernel_rfl) (by kernel_rfl) (fun _ _ _ h => h) (Or.inr ⟨by rfl, rfl⟩) (by assumption) ?_
      try simp only [Act.put, List.setIfInBounds_toArray, List.set_cons_zero, List.set_cons_succ]
      refine wpAnyH_take (i := 13) (oi := ({ dst := some 33, op := Op.load 3 (Operand.tmp 32), type := 3, pos := "nfa.go:143", after := #[{ on := 12, ground := Ground.data }, { on := 7, ground := Ground.guard }], guard := some (7, false) } : Oper)) (v := undef) rfl (by kernel_rfl) (by kernel_rfl) (by kernel_rfl) (fun _ _ _ h => h) (Or.inr ⟨by rfl, rfl⟩) (by assumption) ?_
      try simp only [Act.put, List.setIfInBounds_toArray, List.set_cons_zero, List.set_cons_succ]
      refine wpAnyH_take (i := 14) (oi := ({ dst := some 34, op := Op.call { callee := Callee.value (Operand.func 88), args := #[Operand.tmp 31, Operand.tmp 33], argTypes := #[55, 3] }, type := 4, pos := "nfa.go:143", after := #[{ on := 11, ground := Ground.data }, { on := 13, ground := Ground.data }, { on := 7, ground := Ground.chain }, { on := 7, ground := Ground.guard }], guard := some (7, false) } : Oper)) (v := undef) rfl (by kernel_rfl) (by kernel_rfl) (by kernel_rfl) (fun _ _ _ h => h) (Or.inr ⟨by rfl, rfl⟩) (by assumption) ?_
      try simp only [Act.put, List.setIfInBounds_toArray, List.set_cons_zero, List.set_cons_succ]
      refine wpAnyH_take (i := 15) (oi := ({ dst := some 35, op := Op.pick (Operand.tmp 27) (Operand.const (Value.bool true)) (Operand.tmp 34), type := 4, pos := "nfa.go:143", after := #[{ on := 7, ground := Ground.data }, { on := 14, ground := Ground.data }], guard := none } : Oper)) (v := ?_) rfl (by kernel_rfl) (by kernel_rfl) (by kernel_rfl) (fun _ _ _ h => h) (Or.inl ⟨by rfl, ?_⟩) (by assumption) ?_
      rotate_left
      · intro w' hSw
        try dsimp only at hSw
        go_simp
        try with_reducible rfl
      try simp only [Act.put, List.setIfInBounds_toArray, List.set_cons_zero, List.set_cons_succ]
      refine wpAnyH_take (i := 20) (oi := ({ dst := some 40, op := Op.binOp BinOp.neq 4 (Operand.tmp 35) (Operand.tmp 39) 4, type := 4, pos := "nfa.go:143", after := #[{ on := 15, ground := Ground.data }, { on := 19, ground := Ground.data }], guard := none } : Oper)) (v := ?_) rfl (by kernel_rfl) (by kernel_rfl) (by kernel_rfl) (fun _ _ _ h => h) (Or.inl ⟨by rfl, ?_⟩) (by assumption) ?_
      rotate_left
      · intro w' hSw
        try dsimp only at hSw
        go_simp
        try with_reducible rfl
      try simp only [Act.put, List.setIfInBounds_toArray, List.set_cons_zero, List.set_cons_succ]
      refine wpAnyH_take (i := 21) (oi := ({ dst := some 4, op := Op.assign (Operand.tmp 40), type := 4, pos := "nfa.go:143", after := #[{ on := 20, ground := Ground.data }, { on := 14, ground := Ground.chain }, { on := 0, ground := Ground.phase }, { on := 1, ground := Ground.phase }, { on := 2, ground := Ground.phase }, { on := 3, ground := Ground.phase }, { on := 4, ground := Ground.phase }, { on := 5, ground := Ground.phase }, { on := 6, ground := Ground.phase }, { on := 7, ground := Ground.phase }, { on := 8, ground := Ground.phase }, { on := 9, ground := Ground.phase }, { on := 10, ground := Ground.phase }, { on := 11, ground := Ground.phase }, { on := 12, ground := Ground.phase }, { on := 13, ground := Ground.phase }, { on := 14, ground := Ground.phase }, { on := 15, ground := Ground.phase }, { on := 16, ground := Ground.phase }, { on := 17, ground := Ground.phase }, { on := 18, ground := Ground.phase }, { on := 19, ground := Ground.phase }, { on := 20, ground := Ground.phase }], guard := none } : Oper)) (v := ?_) rfl (by kernel_rfl) (by kernel_rfl) (by kernel_rfl) (fun _ _ _ h => h) (Or.inl ⟨by rfl, ?_⟩) (by assumption) ?_
      rotate_left
      · intro w' hSw
        try dsimp only at hSw
        go_simp
        try with_reducible rfl
      try simp only [Act.put, List.setIfInBounds_toArray, List.set_cons_zero, List.set_cons_succ]
      refine wpAnyH_done (by kernel_rfl) ?_ _
      refine NoPanic.normal ?_
      go_wp2
      go_ret
      refine ⟨?_, HW.out.trans (b6.mono HW.out.size)⟩
      rw [← HR2.out]
      cases neg <;> rfl
    | false =>
      have CL := Lib.hid (hch W1.drew ⟨rfl, rfl, rfl, Nat.le_refl _, fun _ _ => rfl⟩ LO)
      rw [hB1] at CL
      have CH := Lib.hid (fun Y hb => hch Y hb HI)
      obtain ⟨B2, hB2⟩ : ∃ z, inR set HI = z := ⟨_, rfl⟩
      rw [hB2] at CH hRR2
      have HR2 := Lib.hid hRR2
      clear hch hRR2 hB1 hB2
      go_enter Tryd.func52, Tryd.ntmps52
      go_wp2_with fail
      go_region_held3 (fun w' => w'.cell? ⟨k.cb, i * 5 + 2, none⟩ = some (.bool neg) ∧ w'.cell? ⟨k.cb, i * 5 + 3, none⟩ = some sv ∧ w'.cell? ⟨w.heap.size, 1, none⟩ = some (.int .i64 HI) ∧ w'.cell? ⟨w.heap.size, 0, none⟩ = some (.int .i64 LO))
        (first | (with_reducible exact S7) | (with_reducible exact S6) | go_keep)
        (first
        | (go_at_call 88; (with_reducible refine CL.out.mono ?_); rintro e X6 ⟨rfl, h⟩; have b6 : Below W1.heap.size W1 X6 := ⟨h.os, h.tape, h.output, h.size, h.block⟩; have S6 := KP.out _ b6; have CH6 := Lib.hid (CH.out _ b6); clear h)
        | (go_at_call 88; (with_reducible refine CH6.out.mono ?_); rintro e X7 ⟨rfl, h⟩; have b7 : Below W1.heap.size W1 X7 := b6.trans ((⟨h.os, h.tape, h.output, h.size, h.block⟩ : Below X6.heap.size X6 X7).mono b6.size); have S7 := KP.out _ b7; clear h))
      go_wp2
      go_ret
      refine ⟨?_, HW.out.trans (b7.mono HW.out.size)⟩
      rw [← HR2.out]
      cases B2 <;> cases neg <;> rfl
end Go.Proofs.YtdfacbcenogplaaDoor

namespace Go.Proofs.YtdfacbcenogplaaDoor
open Go.RowKit Go.Lib Go.Maps

theorem info_u64 : (Tryd.prog.info? 144).map (fun i => (i.zero, i.size, i.bytes)) = some (some (.int .u64 0), 1, 8) := by kernel_rfl
theorem made_u64 (n j : Nat) (h : j < n) : (madeCells (Value.int .u64 0).cells (n * 1))[j]? = some (.int .u64 0) := by
  unfold madeCells
  rw [Array.getElem?_map, Array.getElem?_range, if_pos (by omega)]
  simp only [Option.map_some]
  have : j % (Value.int .u64 0).cells.size = 0 := Nat.mod_one j
  rw [this]
  rfl
set_option maxRecDepth 100000 in
set_option maxHeartbeats 1000000 in
theorem newSearch_any (k : SCon) (K : Well k) (h0 : 0 < k.C.length) (hk : k.keep = false) {w : World} (hB : k.B = w.heap.size) (hR : k.R = w.heap.size) (hP : PrgIn w k.B k.P k.fold k.bytes k.cb k.ccap k.C k.first) :
    Calls Tryd.prog 26 #[.pointer (some ⟨k.P, 0, none⟩), .string k.s, .bool false] w fun e w' => e = .returned (.pointer (some ⟨k.R, 0, none⟩)) ∧ Below w.heap.size w w' ∧
      ∃ (rb : Nat) (cs : Array Value) (ws : List Nat) (ss : SS), Sch k w' 0 (.slice none 0 0) (.slice none 0 0) (.slice none 0 0) rb 0 k.words cs ws ss := by
  have hCl := K.len
  have hwd := K.wds
  have hp2 := hP.blk.cell 2
  simp only [List.getElem?_toArray, List.getElem?_cons_succ, List.getElem?_cons_zero] at hp2
  have e1 : ((k.C.length : Int) + 63).tdiv 64 = (k.words : Int) := by rw [Int.tdiv_eq_ediv_of_nonneg (by omega)]; omega
  have HP := Lib.hid hP
  have HB := Lib.hid (And.intro hB hR)
  have hw0 : 0 < k.words := by omega
  have hw1 : k.words ≤ 2000 := by omega
  obtain ⟨N, hN⟩ : ∃ N, k.words = N := ⟨_, rfl⟩
  rw [hN] at e1 hw0 hw1
  have HN := Lib.hid hN
  obtain ⟨i0, hi, hz0, hz1, hz2⟩ := info_parts info_u64
  have hmk : ∀ W : World, (Instr.makeSlice 95 (.int .i64 (N : Int)) (.int .i64 (N : Int))).run Tryd.prog W = .ok (.slice (some ⟨W.heap.size, 0, none⟩) N N) (W.alloc (.cells (madeCells (Value.int .u64 0).cells (N * 1)) 144)) := fun W => by
    have := run_make (P := Tryd.prog) W 95 144 i0 (.int .u64 0) Tryd.underlying95 hi hz0 .i64 .i64 (N : Int) (N : Int) (by omega) (by omega) (by rw [hz2]; omega) (by omega)
    rw [hz1, Int.toNat_natCast] at this
    exact this
  have hMu := fun j => made_u64 N j
  have hMs : (madeCells (Value.int .u64 0).cells (N * 1)).size = N := by rw [size_madeCells]; omega
  generalize madeCells (Value.int .u64 0).cells (N * 1) = M at *
  have HMM := Lib.hid (And.intro hMu hMs)
  clear hN hwd hP hB hR hi hz0 hz1 hz2 hMu hMs
  go_enter Tryd.func26, Tryd.ntmps26
  go_wp2_with fail
  have B3 := (Blk.new w #[.pointer (some ⟨k.P, 0, none⟩), .string k.s, .int .i64 0, .slice none 0 0, .slice none 0 0, .bool false, .int .i64 0, .int .i64 0, .bool false, .int .i64 (N : Int), .slice none 0 0, .slice (some ⟨w.heap.size + 1, 0, none⟩) N N] 97).alloc (.cells M 144)
  have B4 := (Blk.new (w.alloc (.cells #[.pointer (some ⟨k.P, 0, none⟩), .string k.s, .int .i64 0, .slice none 0 0, .slice none 0 0, .bool false, .int .i64 0, .int .i64 0, .bool false, .int .i64 (N : Int), .slice none 0 0, .slice (some ⟨w.heap.size + 1, 0, none⟩) N N] 97)) M 144)
  rw [show ∀ o : Obj, (w.alloc o).heap.size = w.heap.size + 1 from fun o => by simp] at B4
  have hb := ((Below.refl w.heap.size w).alloc (Nat.le_refl _) (.cells #[.pointer (some ⟨k.P, 0, none⟩), .string k.s, .int .i64 0, .slice none 0 0, .slice none 0 0, .bool false, .int .i64 0, .int .i64 0, .bool false, .int .i64 (N : Int), .slice none 0 0, .slice (some ⟨w.heap.size + 1, 0, none⟩) N N] 97)).alloc (by simp) (.cells M 144)
  go_ret
  have hN := HN.out
  refine ⟨by rw [HB.out.2]; rfl, hb, w.heap.size + 1, M, List.replicate N 0, ⟨fun _ => False, [], false, 0, 0⟩, ?_⟩
  refine ⟨by rw [HB.out.2, hk, hN]; exact B3, by rw [HB.out.1, HB.out.2]; exact Nat.le_refl _, HP.out.below (by rw [HB.out.1]; exact hb), B4, by rw [HB.out.1]; omega, by rw [hN, HMM.out.2]; omega, by rw [hN]; simp, fun x hx => by rw [(List.mem_replicate.1 hx).2]; decide, fun j x hj => ?_, (bitW_zero _).symm, ⟨rfl, .inl ⟨rfl, rfl⟩⟩, fun g hg => (nomatch hg), Nat.zero_le _⟩
  have hx := (List.mem_replicate.1 (List.mem_of_getElem? hj)).2
  have hjl := (List.getElem?_eq_some_iff.1 hj).1
  rw [List.length_replicate] at hjl
  rw [hx, Nat.zero_add]
  exact HMM.out.1 j hjl
end Go.Proofs.YtdfacbcenogplaaDoor

namespace Go.Proofs.YtdfacbcenogplaaDoor
open Go.RowKit Go.Lib Go.Maps

/-- The first place from a byte on, where these few bytes ahead are looked at. -/
def placeF (s : ByteArray) (from_ : Nat) : Nat → Nat → Nat
  | 0, _ => from_
  | f + 1, b => if b ≤ from_ then (if b < wid s false (from_ - b) then from_ - b + wid s false (from_ - b) else placeF s from_ f (b + 1)) else from_
def nplaceZ (s : ByteArray) (from_ : Nat) (bytes : Bool) : Nat := if bytes then from_ else placeF s from_ 3 1
theorem placeF_le (s : ByteArray) (a : Nat) (h : a ≤ s.size) : ∀ f b, 1 ≤ b → placeF s a f b ≤ s.size
  | 0, _, _ => h
  | f + 1, b, hb => by
    unfold placeF
    split
    · split
      · have := (wid_in s false (a - b) (by omega)).2
        omega
      · exact placeF_le s a h f (b + 1) (by omega)
    · exact h
theorem nplaceZ_le (s : ByteArray) (a : Nat) (bytes : Bool) (h : a ≤ s.size) : nplaceZ s a bytes ≤ s.size := by
  unfold nplaceZ
  split
  · exact h
  · exact placeF_le s a h 3 1 (by omega)
set_option maxRecDepth 100000 in
set_option maxHeartbeats 1000000 in
theorem place_any (s : ByteArray) (a : Nat) (bytes : Bool) (hs : s.size ≤ 1048576) (ha : a ≤ s.size) {W : World} (hT : ∀ W', Below W.heap.size W W' → Utf8Tabs 4 5 W') :
    Calls Tryd.prog 28 #[.string s, .int .i64 (a : Int), .bool bytes] W fun e w' => e = .returned (.int .i64 (nplaceZ s a bytes : Int)) ∧ Below W.heap.size W w' := by
  cases bytes with
  | true =>
    rw [show nplaceZ s a true = a from rfl]
    clear hT
    go_enter Tryd.func28, Tryd.ntmps28
    go_wp2_with fail
    go_ret
    exact ⟨rfl, Below.refl _ _⟩
  | false =>
    obtain ⟨R, hR⟩ : ∃ R, nplaceZ s a false = R := ⟨_, rfl⟩
    rw [hR]
    have HR := Lib.hid (show placeF s a 3 1 = R from hR)
    have HT := Lib.hid hT
    clear hR hT
    go_enter Tryd.func28, Tryd.ntmps28
    go_wp2_with fail
    go_loopw [7] (fun i wr => ∃ b : Nat, i = .int .i64 (b : Int) ∧ 1 ≤ b ∧ b ≤ 4 ∧ Hid (placeF s a (4 - b) b = R) ∧ Hid (Below W.heap.size W wr)) (fun i _ => 4 - (RowKit.intOf i).toNat)
    case atStart => exact ⟨1, rfl, Nat.le_refl _, by omega, HR, Lib.hid (Below.refl _ _)⟩
    case round =>
      obtain ⟨b, rfl, hb1, hb4, hp, hlo⟩ := hrel
      by_cases h4 : b < 4
      · by_cases hba : b ≤ a
        · have hpl := hp.out
          rw [show 4 - b = 3 - b + 1 by omega, placeF, if_pos hba] at hpl
          obtain ⟨Z, hZ⟩ : ∃ z, wid s false (a - b) = z := ⟨_, rfl⟩
          obtain ⟨CODE, hCO⟩ : ∃ z, uCod s false (a - b) = z := ⟨_, rfl⟩
          have hcn := next_any s ((a - b : Nat) : Int) false wr (HT.out wr hlo.out) (by omega)
          rw [nextZ_eq, hCO, hZ, show ((a - b : Nat) : Int) = (a : Int) - (b : Int) by omega] at hcn
          rw [hZ] at hpl
          have hzl := wid_le4 s false (a - b)
          rw [hZ] at hzl
          have CN := Lib.hid hcn
          have q1 : (b : Int) < 4 := by omega
          have q2 : (b : Int) ≤ (a : Int) := by omega
          have hab : a ≤ 1048576 := by omega
          clear hcn hCO hZ hp
          by_cases hz : b < Z
          · rw [if_pos hz] at hpl
            have HPL := Lib.hid hpl
            have q3 : (b : Int) < (Z : Int) := by omega
            clear hpl
            go_wp2_with fail
            refine CN.out.mono ?_
            rintro e w3 ⟨rfl, b3⟩
            go_wp2_with fail
            go_ret
            exact ⟨by rw [← HPL.out]; simp; omega, hlo.out.trans (Below.mono ⟨b3.os, b3.tape, b3.output, b3.size, b3.block⟩ hlo.out.size)⟩
          · rw [if_neg hz] at hpl
            have HPL := Lib.hid hpl
            have q3 : ¬ (b : Int) < (Z : Int) := by omega
            clear hpl
            go_wp2_with fail
            refine CN.out.mono ?_
            rintro e w3 ⟨rfl, b3⟩
            have HL3 := Lib.hid (hlo.out.trans (Below.mono ⟨b3.os, b3.tape, b3.output, b3.size, b3.block⟩ hlo.out.size))
            clear b3 hlo CN
            go_wp2_with fail
            go_roundw
            case rel => exact ⟨b + 1, by go_num, by omega, by omega, by rw [show 4 - (b + 1) = 3 - b by omega]; exact HPL, HL3⟩
            case measure => simp [RowKit.intOf]; omega
        · have hpl := hp.out
          rw [show 4 - b = 3 - b + 1 by omega, placeF, if_neg hba] at hpl
          have q1 : (b : Int) < 4 := by omega
          have q2 : ¬ (b : Int) ≤ (a : Int) := by omega
          have HPL := Lib.hid hpl
          clear hpl hp
          go_wp2_with fail
          go_ret
          exact ⟨by rw [← HPL.out]; rfl, hlo.out⟩
      · obtain rfl : b = 4 := by omega
        have HPL := Lib.hid (show a = R from hp.out)
        clear hp
        go_wp2_with fail
        go_ret
        exact ⟨by rw [← HPL.out]; rfl, hlo.out⟩
end Go.Proofs.YtdfacbcenogplaaDoor

namespace Go.Proofs.YtdfacbcenogplaaDoor
open Go.RowKit Go.Lib Go.Maps

theorem find_told (k : SCon) (K : Well k) (hk : k.keep = false) {x0 : Ins} (hx0 : k.C[0]? = some x0) (hfi : k.first < k.C.length) (hF : FitsOK k) {w : World} (hT : ∀ W', Below k.B w W' → Utf8Tabs 4 5 W') {rb : Nat} {cs : Array Value} {ws : List Nat} {ss : SS}
    (hS : Sch k w 0 (.slice none 0 0) (.slice none 0 0) (.slice none 0 0) rb 0 k.words cs ws ss) {o : Nat} (hos : o ≤ k.s.size) :
    Calls Tryd.prog 27 #[.pointer (some ⟨k.R, 0, none⟩), .int .i64 (o : Int)] w fun e w' => ∃ (found : Bool) (st en : Nat), e = .returned (.tuple #[.int .i64 (st : Int), .int .i64 (en : Int), .bool found]) ∧ (found = true → Best (envS k) k.C (fun _ _ => False) o k.first true st en) ∧ (found = false → st = 0 ∧ en = 0 ∧ ∃ st en, Best (envS k) k.C (fun _ _ => False) o k.first false st en) ∧ Below k.B w w' := by
  refine (find_any k K hk hx0 hfi hF hT (xs := []) hS ⟨rfl, .inl ⟨rfl, rfl⟩⟩ hos).mono ?_
  rintro e w' ⟨⟨found, st, en, rfl, hb⟩, hl⟩
  cases found with
  | true => exact ⟨true, st, en, rfl, fun _ => hb, fun h => (nomatch h), hl⟩
  | false => exact ⟨false, 0, 0, rfl, fun h => (nomatch h), fun _ => ⟨rfl, rfl, st, en, hb⟩, hl⟩
set_option maxRecDepth 100000 in
set_option maxHeartbeats 4000000 in
theorem progFind_any (k : SCon) (K : Well k) (hk : k.keep = false) {W : World} (hB : k.B = W.heap.size) (hR : k.R = W.heap.size) (hP : PrgIn W k.B k.P k.fold k.bytes k.cb k.ccap k.C k.first) {x0 : Ins} (hx0 : k.C[0]? = some x0) (hfi : k.first < k.C.length) (hF : FitsOK k) (hT : ∀ W', Below W.heap.size W W' → Utf8Tabs 4 5 W') {a : Nat} (ha : a ≤ k.s.size) :
    Calls Tryd.prog 13 #[.pointer (some ⟨k.P, 0, none⟩), .string k.s, .int .i64 (a : Int)] W fun e w' => ∃ (found : Bool) (st en : Nat), e = .returned (.tuple #[.int .i64 (st : Int), .int .i64 (en : Int), .bool found]) ∧ (found = true → Best (envS k) k.C (fun _ _ => False) (nplaceZ k.s a k.bytes) k.first true st en) ∧ (found = false → st = 0 ∧ en = 0 ∧ ∃ st en, Best (envS k) k.C (fun _ _ => False) (nplaceZ k.s a k.bytes) k.first false st en) ∧ Below W.heap.size W w' := by
  have h0 : 0 < k.C.length := (List.getElem?_eq_some_iff.1 hx0).1
  have hstr := K.str
  have bd : Below W.heap.size W W.drew := ⟨rfl, rfl, rfl, Nat.le_refl _, fun _ _ => rfl⟩
  have CS := Lib.hid (newSearch_any k K h0 hk (w := W.drew) hB hR (hP.below (by rw [hB]; exact bd)))
  have p1 := hP.blk.cell 1
  simp only [List.getElem?_toArray, List.getElem?_cons_succ, List.getElem?_cons_zero] at p1
  have KP := Lib.hid (fun (Y : World) (hb : Below W.heap.size W Y) => show Y.cell? ⟨k.P, 1, none⟩ = some (.bool k.bytes) from (hb.cell (p := ⟨k.P, 1, none⟩) (lt_of_cell p1)).trans p1)
  have HT := Lib.hid hT
  have HB := Lib.hid hB
  have CPl := Lib.hid (fun (X : World) (hb : Below W.heap.size W X) => place_any k.s a k.bytes hstr ha (W := X) (fun W' h => hT W' (hb.trans (h.mono hb.size))))
  have CFi := Lib.hid (fun (X : World) (hb : Below W.heap.size W X) (rb : Nat) (cs : Array Value) (ws : List Nat) (ss : SS) (h : Sch k X 0 (.slice none 0 0) (.slice none 0 0) (.slice none 0 0) rb 0 k.words cs ws ss) => find_told k K hk hx0 hfi hF (w := X) (fun W' hh => hT W' (hb.trans (by rw [hB] at hh; exact hh))) h (nplaceZ_le k.s a k.bytes ha))
  have q1 : ¬ (a : Int) < 0 := by omega
  have q2 : ¬ (k.s.size : Int) < (a : Int) := by omega
  clear hP hT hB hR
  go_enter Tryd.func13, Tryd.ntmps13
  go_wp2_with fail
  go_region_held3 (fun w' => w'.cell? ⟨k.P, 1, none⟩ = some (.bool k.bytes))
    (first | (with_reducible exact S3) | (with_reducible exact S2) | (with_reducible exact S1) | go_keep)
    (first
    | (go_at_call 26; (with_reducible refine CS.out.mono ?_); rintro e X1 ⟨rfl, h, rb, cs, ws, ss, hS⟩; have b1 : Below W.heap.size W X1 := bd.trans h; have S1 := KP.out _ b1; have CP1 := Lib.hid (CPl.out _ b1); have HS1 := Lib.hid hS; clear h hS)
    | (go_at_call 28; (with_reducible refine CP1.out.mono ?_); rintro e X2 ⟨rfl, h⟩; have b2 : Below W.heap.size W X2 := b1.trans (h.mono b1.size); have S2 := KP.out _ b2; have CF2 := Lib.hid (CFi.out _ b2 _ _ _ _ (HS1.out.same h)); clear h)
    | (go_at_call 27; (with_reducible refine CF2.out.mono ?_); rintro e X3 ⟨found, st, en, rfl, h1, h2, h⟩; have b3 : Below W.heap.size W X3 := b2.trans (by rw [HB.out] at h; exact h); have S3 := KP.out _ b3; have HB3 := Lib.hid (And.intro h1 h2); clear h h1 h2))
  go_wp2
  refine bodyPost_ret (results_tmp3 rfl _ _ _) rfl ?_
  exact ⟨found, st, en, rfl, HB3.out.1, HB3.out.2, b3⟩
/-- From no place of the string. -/
theorem progFind_out (P : Nat) (s : ByteArray) (a : Int) (h : a < 0 ∨ (s.size : Int) < a) (W : World) :
    Calls Tryd.prog 13 #[.pointer (some ⟨P, 0, none⟩), .string s, .int .i64 a] W fun e w' => e = .returned (.tuple #[.int .i64 0, .int .i64 0, .bool false]) ∧ W = w' := by
  by_cases q1 : a < 0
  · clear h
    go_enter Tryd.func13, Tryd.ntmps13
    go_wp2_with fail
    refine bodyPost_ret (results_tmp3 rfl _ _ _) rfl ?_
    exact ⟨rfl, rfl⟩
  · have q2 : (s.size : Int) < a := by omega
    clear h
    go_enter Tryd.func13, Tryd.ntmps13
    go_wp2_with fail
    refine bodyPost_ret (results_tmp3 rfl _ _ _) rfl ?_
    exact ⟨rfl, rfl⟩
end Go.Proofs.YtdfacbcenogplaaDoor
