/- Layer 1, without walks: the characters of a string whose letters were changed, one by one; small letters of capitals. -/
import Derived.Test.YthlhlaolanemfaaDoorUstrT
namespace Go.Proofs.YthlhlaolanemfaaDoor
open Go.RowKit Go.Lib

/-- What became of a byte. -/
theorem rec_byte (s : ByteArray) (f : Int → Int) (hf : LetMap false f) (j : Nat) (hj : j < s.size) :
    (recB s false f).get! j = s.get! j ∨ ((s.get! j).toNat < 128 ∧ ((recB s false f).get! j).toNat < 128) ∨
      (∃ k, k < cnt s false ∧ j = pl s false k + 1 ∧ f (cod s false (pl s false k)) ≠ cod s false (pl s false k) ∧ ((recB s false f).get! (pl s false k)).toNat = 195 ∧ (s.get! (pl s false k)).toNat = 195 ∧ (s.get! j).toNat / 64 = 2 ∧ ((recB s false f).get! j).toNat / 64 = 2) := by
  obtain ⟨k, i, hk, hi, rfl⟩ := in_char s false j hj
  have hp := (cnt_spec s false k).2 hk
  by_cases h : f (cod s false (pl s false k)) = cod s false (pl s false k)
  · exact .inl (rec_same s false f (hf.keeps s) k hk h i hi)
  · have hg := rec_get s false f (hf.keeps s) k hk i hi
    rw [piece_tx s false f hf k hk] at hg
    simp only [tx, Bool.false_eq_true, if_false] at hg
    rcases hf _ h with ⟨h1, h2, h3, h4⟩ | ⟨_, h1, h2, h3, h4⟩
    · obtain ⟨w1, w2⟩ := cod_byte s _ hp (by omega)
      obtain rfl : i = 0 := by omega
      rw [textB_rune _ (by simp only [Lib.validRune, decide_eq_true_eq]; omega), enc_1 _ (by simp only [Lib.validRune, decide_eq_true_eq]; omega) h4] at hg
      right; left
      rw [hg, Nat.add_zero, w2]
      refine ⟨by omega, ?_⟩
      show (UInt8.ofNat _).toNat < 128
      rw [UInt8.toNat_ofNat']; omega
    · obtain ⟨w1, w2, w3⟩ := cod_two s _ hp (by omega) (by omega)
      have hg0 := rec_get s false f (hf.keeps s) k hk 0 (by omega)
      rw [piece_tx s false f hf k hk] at hg0
      simp only [tx, Bool.false_eq_true, if_false] at hg0
      rw [textB_rune _ (by simp only [Lib.validRune, decide_eq_true_eq]; omega), enc_2 _ (by simp only [Lib.validRune, decide_eq_true_eq]; omega) (by omega) (by omega)] at hg hg0
      have g0 : ((recB s false f).get! (pl s false k)).toNat = 195 := by
        rw [Nat.add_zero] at hg0
        rw [hg0]
        show (UInt8.ofNat _).toNat = 195
        rw [UInt8.toNat_ofNat']; omega
      rcases (by omega : i = 0 ∨ i = 1) with rfl | rfl
      · left
        rw [Nat.add_zero]
        exact UInt8.toNat_inj.1 (by rw [g0, w2])
      · right; right
        refine ⟨k, hk, rfl, h, g0, w2, w3, ?_⟩
        rw [hg]
        show (UInt8.ofNat _).toNat / 64 = 2
        rw [UInt8.toNat_ofNat']; omega

theorem nextZ_ch (u : ByteArray) (j : Nat) (h : j < u.size) : nextZ u (j : Int) false = chS u j := nextZ_in u j false h

/-- The k-th character of a string whose letters were changed. -/
theorem rec_next (s : ByteArray) (b : Bool) (f : Int → Int) (hf : LetMap b f) (k : Nat) (hk : k < cnt s b) :
    nextZ (recB s b f) (pl s b k : Nat) b = ((f (cod s b (pl s b k))).toNat, wid s b (pl s b k)) := by
  have hp := (cnt_spec s b k).2 hk
  have hz := recB_size s b f (hf.keeps s)
  have hw1 := wid_in s b _ hp
  cases b
  · by_cases h : f (cod s false (pl s false k)) = cod s false (pl s false k)
    · rw [h, Int.toNat_natCast]
      rw [next_local s (recB s false f) (pl s false k) (pl s false k) hp (by omega) (rec_same s false f (hf.keeps s) k hk h 0 (by omega)) ?_ ?_]
      · exact nextZ_eq s false _
      · intro i hi hc
        have hci := hc i (Nat.le_refl _)
        rw [hz] at hci
        refine ⟨hci.1, ?_⟩
        rcases rec_byte s f hf (pl s false k + 1 + i) hci.1 with q | q | ⟨k', hk', e, hne, t195, s195, q1, q2⟩
        · exact q.symm
        · exfalso; omega
        · exfalso
          by_cases hi0 : i = 0
          · subst hi0
            have : pl s false k' = pl s false k := by omega
            rw [this] at hne
            exact hne h
          · have e2 : pl s false k' = pl s false k + 1 + (i - 1) := by omega
            have := (hc (i - 1) (by omega)).2
            rw [← e2] at this
            omega
      · intro i hi
        refine ⟨by omega, ?_⟩
        have := rec_same s false f (hf.keeps s) k hk h (i + 1) hi
        rw [show pl s false k + (i + 1) = pl s false k + 1 + i by omega] at this
        exact this
    · have hg0 := rec_get s false f (hf.keeps s) k hk 0 (by omega)
      rw [piece_tx s false f hf k hk, Nat.add_zero] at hg0
      simp only [tx, Bool.false_eq_true, if_false] at hg0
      rw [nextZ_ch _ _ (by omega)]
      rcases hf _ h with ⟨h1, h2, h3, h4⟩ | ⟨_, h1, h2, h3, h4⟩
      · obtain ⟨w1, w2⟩ := cod_byte s _ hp (by omega)
        rw [textB_rune _ (by simp only [Lib.validRune, decide_eq_true_eq]; omega), enc_1 _ (by simp only [Lib.validRune, decide_eq_true_eq]; omega) h4] at hg0
        have g0 : ((recB s false f).get! (pl s false k)).toNat = (f (cod s false (pl s false k))).toNat := by
          rw [hg0]
          show (UInt8.ofNat _).toNat = _
          rw [UInt8.toNat_ofNat']; omega
        unfold chS chN
        rw [g0, dec_one _ _ _ _ _ (by omega), if_neg (by simp; omega), w1]
      · obtain ⟨w1, w2, w3⟩ := cod_two s _ hp (by omega) (by omega)
        have hg1 := rec_get s false f (hf.keeps s) k hk 1 (by omega)
        rw [piece_tx s false f hf k hk] at hg1
        simp only [tx, Bool.false_eq_true, if_false] at hg1
        rw [textB_rune _ (by simp only [Lib.validRune, decide_eq_true_eq]; omega), enc_2 _ (by simp only [Lib.validRune, decide_eq_true_eq]; omega) (by omega) (by omega)] at hg0 hg1
        have g0 : ((recB s false f).get! (pl s false k)).toNat = 195 := by
          rw [hg0]
          show (UInt8.ofNat _).toNat = 195
          rw [UInt8.toNat_ofNat']; omega
        have g1 : ((recB s false f).get! (pl s false k + 1)).toNat = (f (cod s false (pl s false k))).toNat - 64 := by
          rw [hg1]
          show (UInt8.ofNat _).toNat = _
          rw [UInt8.toNat_ofNat']; omega
        unfold chS chN
        rw [g0, g1, dec_two _ _ _ _ _ (by omega) (by omega) (by decide), if_neg (by simp), w1]
        simp only [Prod.mk.injEq, and_true]
        omega
  · have e2 : ∀ (u : ByteArray) (p : Nat), p < u.size → nextZ u (p : Int) true = ((u.get! p).toNat, 1) := fun u p h => nextZ_in u p true h
    have hc : cod s true (pl s true k) = (s.get! (pl s true k)).toNat := by unfold cod; rw [e2 s _ hp]
    rw [e2 _ _ (by omega), wid_byte s _ hp]
    have hg0 := rec_get s true f (hf.keeps s) k hk 0 (by omega)
    rw [piece_tx s true f hf k hk, Nat.add_zero] at hg0
    rw [hg0]
    simp only [tx, if_true]
    show ((UInt8.ofNat _).toNat, 1) = _
    rw [UInt8.toNat_ofNat']
    have hb := get!_lt256 s (pl s true k)
    by_cases h : f (cod s true (pl s true k)) = cod s true (pl s true k)
    · rw [h, hc]
      simp only [Prod.mk.injEq, and_true, Int.toNat_natCast]; omega
    · rcases hf _ h with ⟨h1, h2, h3, h4⟩ | ⟨hx, _⟩
      · simp only [Prod.mk.injEq, and_true]; omega
      · cases hx

theorem rec_pl (s : ByteArray) (b : Bool) (f : Int → Int) (hf : LetMap b f) : ∀ k, pl (recB s b f) b k = pl s b k
  | 0 => rfl
  | k + 1 => by
    rw [pl_succ, pl_succ, rec_pl s b f hf k]
    congr 1
    by_cases hk : k < cnt s b
    · show (nextZ _ _ _).2 = _
      rw [rec_next s b f hf k hk]
    · have h1 : ¬ pl s b k < s.size := fun h => hk ((cnt_spec s b k).1 h)
      rw [wid_out s b _ (by omega), wid_out _ b _ (by rw [recB_size s b f (hf.keeps s)]; omega)]
theorem rec_cnt (s : ByteArray) (b : Bool) (f : Int → Int) (hf : LetMap b f) : cnt (recB s b f) b = cnt s b := by
  unfold cnt
  rw [recB_size s b f (hf.keeps s)]
  congr 1
  funext k
  rw [rec_pl s b f hf]
theorem rec_cod (s : ByteArray) (b : Bool) (f : Int → Int) (hf : LetMap b f) (k : Nat) (hk : k < cnt s b) : (cod (recB s b f) b (pl s b k) : Int) = f (cod s b (pl s b k)) := by
  have h0 : 0 ≤ f (cod s b (pl s b k)) := by
    by_cases h : f (cod s b (pl s b k)) = cod s b (pl s b k)
    · rw [h]; omega
    · rcases hf _ h with h1 | h1 <;> omega
  unfold cod
  rw [rec_next s b f hf k hk]
  show ((f (cod s b (pl s b k))).toNat : Int) = f (cod s b (pl s b k))
  omega
theorem recB_eq (s : ByteArray) (b : Bool) (f : Int → Int) (hf : LetMap b f) : recB s b f = ⟨((List.range (cnt s b)).flatMap fun k => tx b (f (cod s b (pl s b k)))).toArray⟩ := by
  unfold recB recL
  congr 2
  rw [List.flatMap_def, List.flatMap_def]
  congr 1
  exact List.map_congr_left fun k hk => piece_tx s b f hf k (List.mem_range.1 hk)
/-- Letters changed twice. -/
theorem rec_rec (s : ByteArray) (b : Bool) (f g : Int → Int) (hf : LetMap b f) (hg : LetMap b g) :
    recB (recB s b f) b g = ⟨((List.range (cnt s b)).flatMap fun k => tx b (g (f (cod s b (pl s b k))))).toArray⟩ := by
  rw [recB_eq _ b g hg, rec_cnt s b f hf]
  congr 2
  rw [List.flatMap_def, List.flatMap_def]
  congr 1
  exact List.map_congr_left fun k hk => by rw [rec_pl s b f hf, rec_cod s b f hf k (List.mem_range.1 hk)]
theorem fold_raise (c : Int) (b : Bool) : foldZ (raiseZ c b) b = foldZ (foldZ c b) b := by
  cases b <;> simp only [foldZ, raiseZ, capZ, smallZ, Bool.not_false, Bool.not_true, Bool.true_and, Bool.false_and, Bool.or_false, Bool.or_eq_true, decide_eq_true_eq] <;> repeat' split
  all_goals omega
theorem fold_fold (c : Int) (b : Bool) : foldZ (foldZ c b) b = foldZ c b := by
  cases b <;> simp only [foldZ, capZ, Bool.not_false, Bool.not_true, Bool.true_and, Bool.false_and, Bool.or_false, Bool.or_eq_true, decide_eq_true_eq] <;> repeat' split
  all_goals omega
theorem raise_fold (c : Int) (b : Bool) : raiseZ (foldZ c b) b = raiseZ (raiseZ c b) b := by
  cases b <;> simp only [foldZ, raiseZ, capZ, smallZ, Bool.not_false, Bool.not_true, Bool.true_and, Bool.false_and, Bool.or_false, Bool.or_eq_true, decide_eq_true_eq] <;> repeat' split
  all_goals omega
theorem low_up (s : ByteArray) (b : Bool) : recB (recB s b (raiseZ · b)) b (foldZ · b) = recB (recB s b (foldZ · b)) b (foldZ · b) := by
  rw [rec_rec s b _ _ (let_raise b) (let_fold b), rec_rec s b _ _ (let_fold b) (let_fold b)]
  simp only [fold_raise]
theorem up_low (s : ByteArray) (b : Bool) : recB (recB s b (foldZ · b)) b (raiseZ · b) = recB (recB s b (raiseZ · b)) b (raiseZ · b) := by
  rw [rec_rec s b _ _ (let_fold b) (let_raise b), rec_rec s b _ _ (let_raise b) (let_raise b)]
  simp only [raise_fold]
theorem low_low (s : ByteArray) (b : Bool) : recB (recB s b (foldZ · b)) b (foldZ · b) = recB s b (foldZ · b) := by
  rw [rec_rec s b _ _ (let_fold b) (let_fold b), recB_eq s b _ (let_fold b)]
  simp only [fold_fold]
end Go.Proofs.YthlhlaolanemfaaDoor
