/- Layer 1: the beginning of a string, cut ahead of a character (plain); the contract of Index. -/
import Derived.Test.YtaemijgfngdjlaaDoorUstrQ
import Derived.Test.YtaemijgfngdjlaaDoorUstrL
namespace Go.Proofs.YtaemijgfngdjlaaDoor
open Go.RowKit Go.Lib

theorem take_get! (s : ByteArray) (m i : Nat) (hi : i < m) : (s.extract 0 m).get! i = s.get! i := by
  rw [← getD_get!', ← getD_get!', Lib.extract_data]
  simp only [List.getD_eq_getElem?_getD, List.drop_zero, Nat.sub_zero]
  rw [List.getElem?_take, if_pos hi]
theorem take_size (s : ByteArray) (m : Nat) (hm : m ≤ s.size) : (s.extract 0 m).size = m := by rw [ByteArray.size_extract]; omega
theorem prefix_next (s : ByteArray) (b : Bool) (k j : Nat) (hj : j < k) (hk : k ≤ cnt s b) : nextZ (s.extract 0 (pl s b k)) (pl s b j : Nat) b = nextZ s (pl s b j : Nat) b := by
  have hm := pl_le s b k
  have hz := take_size s _ hm
  have hjl := pl_lt s b j k hj (by omega)
  have hjs := (cnt_spec s b j).2 (by omega)
  have hnx := pl_mono s b (j + 1) k hj
  rw [pl_succ] at hnx
  cases b
  · refine next_local s _ _ _ hjs (by omega) (take_get! s _ _ hjl) (fun i hi h => ?_) (fun i hi => ?_)
    · have h2 := (h i (Nat.le_refl _)).1
      exact ⟨by omega, (take_get! s _ _ (by omega)).symm⟩
    · exact ⟨by omega, take_get! s _ _ (by omega)⟩
  · rw [nextZ_in _ _ true (by omega), nextZ_in _ _ true hjs, take_get! s _ _ hjl, if_pos rfl, if_pos rfl]
theorem prefix_pl (s : ByteArray) (b : Bool) (k : Nat) (hk : k ≤ cnt s b) : ∀ j, j ≤ k → pl (s.extract 0 (pl s b k)) b j = pl s b j
  | 0, _ => rfl
  | j + 1, h => by
    rw [pl_succ, pl_succ, prefix_pl s b k hk j (by omega)]
    congr 1
    show (nextZ _ _ _).2 = _
    rw [prefix_next s b k j h hk]
    rfl
/-- A beginning cut ahead of the character number k has k characters. -/
theorem prefix_cnt (s : ByteArray) (b : Bool) (k : Nat) (hk : k ≤ cnt s b) : cnt (s.extract 0 (pl s b k)) b = k := by
  have hz := take_size s _ (pl_le s b k)
  refine cnt_unique _ b k ?_ (fun j hj => ?_)
  · rw [prefix_pl s b k hk k (Nat.le_refl _), hz]
  · rw [prefix_pl s b k hk j (by omega), hz]
    exact pl_lt s b j k hj (by omega)

/-- t stands at place p of s. -/
def Stands (s t : ByteArray) (p : Nat) : Prop := p + t.size ≤ s.size ∧ (s.data.toList.drop p).take t.size = t.data.toList
theorem stands_iff (s t : ByteArray) (n : Nat) (hn : n ≤ s.size) (ht : t.size ≤ n) : Stands s t (n - t.size) ↔ t.data.toList <:+ s.data.toList.take n := by
  have e : s.data.toList.take n = s.data.toList.take (n - t.size) ++ (s.data.toList.drop (n - t.size)).take t.size := by
    have h1 := List.take_add (l := s.data.toList) (i := n - t.size) (j := t.size)
    rwa [show n - t.size + t.size = n by omega] at h1
  have hl : ((s.data.toList.drop (n - t.size)).take t.size).length = t.data.toList.length := by
    rw [List.length_take, List.length_drop, ← Lib.size_eq, ← Lib.size_eq]; omega
  constructor
  · rintro ⟨_, h⟩
    rw [e, h]
    exact List.suffix_append _ _
  · intro h
    refine ⟨by omega, ?_⟩
    have h2 : (s.data.toList.drop (n - t.size)).take t.size <:+ s.data.toList.take n := by rw [e]; exact List.suffix_append _ _
    exact (suffix_of_suffix h2 h (by omega)).eq_of_length hl
/-- What Index answers. -/
def IsIdx (s t : ByteArray) (b : Bool) (r : Nat) : Prop :=
  (r = 0 ∧ (t.size = 0 ∨ ∀ k, k < cnt s b → ¬ Stands s t (pl s b k))) ∨ (0 < t.size ∧ ∃ k, r = k + 1 ∧ k < cnt s b ∧ Stands s t (pl s b k) ∧ ∀ j, j < k → ¬ Stands s t (pl s b j))
def IdxRet (s t : ByteArray) (b : Bool) (e : Ending) : Prop := ∃ r : Nat, e = .returned (.int .i64 r) ∧ IsIdx s t b r
/-- The state of the loop: nothing stands ahead. -/
def NoneYet (s t : ByteArray) (b : Bool) (n : Nat) : Prop := ∀ p, p + t.size ≤ n → IsStart s b p → ¬ Stands s t p
theorem none_step {s t : ByteArray} {b : Bool} {n : Nat} (h : NoneYet s t b n) (hx : t.size ≤ n + 1 → IsStart s b (n + 1 - t.size) → ¬ Stands s t (n + 1 - t.size)) : NoneYet s t b (n + 1) := fun p hp hst => by
  by_cases e : p + t.size = n + 1
  · have := hx (by omega)
    rw [show n + 1 - t.size = p by omega] at this
    exact this hst
  · exact h p (by omega) hst
theorem idx_none {s t : ByteArray} {b : Bool} (h : NoneYet s t b s.size) : IsIdx s t b 0 :=
  .inl ⟨rfl, .inr fun k hk hst => h _ hst.1 ⟨k, hk, rfl⟩ hst⟩
theorem idx_some {s t : ByteArray} {b : Bool} {n k : Nat} (ht : 0 < t.size) (h : NoneYet s t b n) (hk : k < cnt s b) (hp : pl s b k + t.size = n + 1) (hst : Stands s t (pl s b k)) : IsIdx s t b (k + 1) :=
  .inr ⟨ht, k, rfl, hk, hst, fun j hj hs => h _ (by have := pl_lt s b j k hj (by omega); omega) ⟨j, by omega, rfl⟩ hs⟩

set_option maxRecDepth 100000 in
set_option maxHeartbeats 2000000 in
theorem index_any (s t : ByteArray) (b : Bool) (w : World) (hs : s.size ≤ 4194304) (hts : t.size ≤ 1048576) (hT : Utf8Tabs 0 1 w) :
    Calls Tryd.prog 24 #[.string s, .string t, .bool b] w fun e w' => IdxRet s t b e ∧ Below w.heap.size w w' := by
  by_cases h0 : t.size = 0
  · have he : t.toList = [] := by
      rw [Lib.toList_data]
      exact List.eq_nil_of_length_eq_zero (by rw [← Lib.size_eq]; exact h0)
    have he2 : t.toList.isEmpty = true := by rw [he]; rfl
    have HI := Lib.hid (show IdxRet s t b (.returned (.int .i64 (0 : Nat))) from ⟨0, rfl, .inl ⟨rfl, .inl h0⟩⟩)
    have H0 := Lib.hid h0; clear h0
    go_enter Tryd.func24, Tryd.ntmps24
    go_wp2
    go_ret
    exact ⟨HI.out, Below.refl _ _⟩
  have he2 : t.toList.isEmpty = false := by
    rw [Lib.toList_data]
    cases h : t.data.toList with
    | nil => exact absurd (by rw [Lib.size_eq, h]; rfl) h0
    | cons _ _ => rfl
  have he3 : ¬ t.toList = [] := by
    intro e; rw [e] at he2; cases he2
  by_cases hlt : s.size < t.size
  · have HI := Lib.hid (show IdxRet s t b (.returned (.int .i64 (0 : Nat))) from ⟨0, rfl, .inl ⟨rfl, .inr fun k _ hst => by have := hst.1; omega⟩⟩)
    go_enter Tryd.func24, Tryd.ntmps24
    go_wp2
    go_ret
    exact ⟨HI.out, Below.refl _ _⟩
  have hpos : 0 < t.size := by omega
  have CB := Lib.hid (borders_any t w hpos hts)
  have HT := Lib.hid hT; clear hT
  go_enter Tryd.func24, Tryd.ntmps24
  go_wp2_with fail
  refine CB.out.mono ?_
  rintro e w1 ⟨g, l, rfl, hg, hcl, hbd, hB1⟩
  have hgl : g < w1.heap.size := lt_of_cell (hcl 1 (by omega) (by omega))
  have HCL := Lib.hid hcl
  have HBD := Lib.hid hbd
  clear CB hcl hbd he3
  go_wp2
  go_loopw [8, 24] (fun f a wr => ∃ (n k : Nat), n ≤ s.size ∧ a = .int .i64 n ∧ f = .int .i64 k ∧ IsML t.data.toList (s.data.toList.take n) k ∧ NoneYet s t b n ∧ Below w1.heap.size w1 wr) (fun _ a _ => s.size - (RowKit.intOf a).toNat)
  case atStart =>
    refine ⟨0, 0, by omega, rfl, rfl, ⟨fits_zero _ _, fun j hj => ?_⟩, fun p hp => by omega, Below.refl _ _⟩
    have := fits_le hj
    simpa using this
  case round =>
    obtain ⟨n, k, hn, rfl, rfl, hM, hN, hB⟩ := hrel
    have hkt : k ≤ t.size := by have := hM.1.1; rw [← Lib.size_eq] at this; exact this
    have hB2 := hB1.trans (hB.mono hB1.size)
    by_cases hns : n < s.size
    · have cE := extend_any t g (t.size + 1) (t.size + 1) k s[n] (s.data.toList.take n) l wr hpos hts (by omega) (fun j h1 h2 => (hB.cell (p := ⟨g, j, none⟩) hgl).trans (HCL.out j h1 (by omega))) (fun j h1 h2 => HBD.out j h1 (by omega)) hM
      have etk : s.data.toList.take n ++ [s[n]] = s.data.toList.take (n + 1) := by
        rw [List.take_succ_eq_append_getElem (by rw [← Lib.size_eq]; exact hns)]; rfl
      rw [etk] at cE
      have CE := Lib.hid cE
      have HN := Lib.hid hN
      have HB2 := Lib.hid hB2
      have HB := Lib.hid hB
      clear cE etk hM hN hB2 hB
      go_wp2_with fail
      refine CE.out.mono ?_
      rintro e w' ⟨⟨r, rfl, hr⟩, rfl⟩
      have hrt : r ≤ t.size := by have := hr.1.1; rw [← Lib.size_eq] at this; exact this
      have HR := Lib.hid hr; clear hr
      by_cases hrq : r = t.size
      · have hsuf : t.data.toList <:+ s.data.toList.take (n + 1) := fits_all.1 (by rw [← Lib.size_eq, ← hrq]; exact HR.out.1)
        have htn : t.size ≤ n + 1 := by
          have := hsuf.length_le
          rw [List.length_take, ← Lib.size_eq] at this
          omega
        have hst := (stands_iff s t (n + 1) hns htn).2 hsuf
        obtain ⟨p, hp⟩ : ∃ p, n + 1 - t.size = p := ⟨_, rfl⟩
        rw [hp] at hst
        have HST := Lib.hid hst
        have hps : p < s.size := by omega
        have hpi : (n : Int) + 1 - (t.size : Int) = (p : Int) := by omega
        have HP := Lib.hid hp
        have CG := Lib.hid (fun (W : World) h => begins_any s p b W hps hs h)
        have HRQ := Lib.hid hrq
        have hre : ((r : Int) == (t.size : Int)) = true := by simp; omega
        have T := Lib.hid (tabs_below HT.out HB2.out (Nat.le_refl _))
        clear hsuf hst hp hrq
        go_wp2_with fail
        refine (CG.out _ T.out).mono ?_
        rintro e w2 ⟨⟨rb, rfl, hrb⟩, hb2⟩
        have hB3 := HB2.out.trans (hb2.mono HB2.out.size)
        have hB4 := HB.out.trans (hb2.mono HB.out.size)
        have HB3 := Lib.hid hB3
        have HB4 := Lib.hid hB4
        cases rb
        · have hns2 : ¬ IsStart s b p := fun h => by have := hrb.2 h; cases this
          have hN1 := none_step HN.out (fun _ h2 _ => hns2 (by rw [HP.out] at h2; exact h2))
          have HN1 := Lib.hid hN1
          clear hN1 hns2 hrb hb2 hB3 hB4
          go_wp2
          go_roundw
          case rel => exact ⟨n + 1, r, by omega, by go_num, rfl, HR.out, HN1.out, HB4.out⟩
          case measure => simp [RowKit.intOf]; omega
        · obtain ⟨k', hk', hpk⟩ := hrb.1 rfl
          have hix := idx_some hpos HN.out hk' (by rw [hpk]; have := HP.out; omega) (by rw [hpk]; exact HST.out)
          have HI := Lib.hid (show IdxRet s t b (.returned (.int .i64 ((k' + 1 : Nat) : Int))) from ⟨k' + 1, rfl, hix⟩)
          have hcl := cnt_le s b
          have cL := fun (W : World) => len_any (s.extract 0 p) b W (by rw [take_size s p (by omega)]; omega)
          have hpc := prefix_cnt s b k' (by omega)
          rw [hpk] at hpc
          rw [hpc] at cL
          have CL := Lib.hid cL
          clear hix hrb hb2 hB3 hB4 hpk hpc cL
          go_wp2_with fail
          refine (CL.out _).mono ?_
          rintro e w3 ⟨rfl, hb3⟩
          go_wp2
          go_ret
          exact ⟨by have := HI.out; rwa [Int.natCast_add] at this, HB3.out.trans (hb3.mono HB3.out.size)⟩
      · have hre : ((r : Int) == (t.size : Int)) = false := by simp; omega
        have hN1 := none_step HN.out (fun h1 _ hst => by
          have h2 := (stands_iff s t (n + 1) hns h1).1 hst
          have h3 := HR.out.2 t.size (by rw [Lib.size_eq]; exact fits_all.2 h2)
          omega)
        have HN1 := Lib.hid hN1; clear hN1
        go_wp2
        go_roundw
        case rel => exact ⟨n + 1, r, by omega, by go_num, rfl, HR.out, HN1.out, HB.out⟩
        case measure => simp [RowKit.intOf]; omega
    · have hne : n = s.size := by omega
      have hN' := hN
      rw [hne] at hN'
      have HI := Lib.hid (show IdxRet s t b (.returned (.int .i64 (0 : Nat))) from ⟨0, rfl, idx_none hN'⟩)
      clear hM hN hN' hne
      go_wp2
      go_ret
      exact ⟨HI.out, hB2⟩
end Go.Proofs.YtaemijgfngdjlaaDoor
