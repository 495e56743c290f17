/- Several texts in one (Plain: what a pattern reads as may be (layer 10); Plain: what a find tells of a tree, and of a choice of two (layer 10); Contracts of layer 9: a choice, a group (printed by tools/gen_choice.py); Contracts of layer 9: groups within groups; Contracts of layer 9: the deferred closure of Parse; Contracts of layer 9: the whole of a pattern; Contracts of layer 9: Parse; Contracts of layer 10: a search of a program that was made ready of a tree; Plain: where the document's example of layer 10 is found; Contracts of layer 10: 'own': small laws). -/
import Derived.Recover
import Derived.Defers
import Derived.Test.YtdfacbcenogplaaDoorPk1
import Derived.Test.YtdfacbcenogplaaDoorPk2
import Derived.Test.YtdfacbcenogplaaDoorPk4
import Derived.Test.YtdfacbcenogplaaDoorPk5
import Derived.Test.YtdfacbcenogplaaDoorPk6
import Derived.Test.YtdfacbcenogplaaDoorPk8
import Derived.Test.YtdfacbcenogplaaDoorPk9
namespace Go.Proofs.YtdfacbcenogplaaDoor

/-- Ranges of codes. -/
def Cod (l : List (Int × Int)) : Prop := ∀ r ∈ l, 0 ≤ r.1 ∧ r.1 ≤ r.2 ∧ r.2 ≤ 1114367
theorem meant_cod {c d : Nat} (h : meantF c = some d) (hc : c ≤ 1114367) : d ≤ 1114367 := by
  unfold meantF at h
  repeat' split at h
  all_goals (cases h; try omega)
theorem mem_cod {s : ByteArray} {b : Bool} {a i k c : Nat} (h : memF s b a i = .ok c k) : c ≤ 1114367 := by
  unfold memF at h
  split at h
  · cases h
  split at h
  · split at h
    · cases h
    · split at h
      · cases h
      · rename_i hm
        cases h
        exact meant_cod hm nx_cod
  · cases h
    exact nx_cod
theorem cls_cod {l : List UInt8} {r : List (Int × Int)} (h : clsL l = some r) : Cod r := by
  unfold clsL at h
  iterate 12
    rcases ite_or h with ⟨_, h⟩ | ⟨_, h⟩
    · cases h
      unfold Cod
      decide
  cases h
theorem itm_cod {s : ByteArray} {b : Bool} {a i k : Nat} {l : List (Int × Int)} (h : itmF s b a i = .ok l k) : Cod l := by
  unfold itmF at h
  split at h
  · unfold clsF at h
    split at h
    · split at h
      · cases h
      · rename_i hc
        cases h
        exact cls_cod hc
    · cases h
  · split at h
    · cases h
    · rename_i lo k1 h1
      have m1 := mem_cod h1
      split at h
      · split at h
        · cases h
        · split at h
          · cases h
          · rename_i hi k2 h2
            have m2 := mem_cod h2
            split at h
            · cases h
            · cases h
              intro r hr
              rw [List.mem_singleton.1 hr]
              simp only
              omega
      · cases h
        intro r hr
        rw [List.mem_singleton.1 hr]
        simp only
        omega
theorem set_cod {s : ByteArray} {b : Bool} {a : Nat} : ∀ {f : Nat} {first : Bool} {i k : Nat} {acc l : List (Int × Int)}, Cod acc → setF s b a f first i acc = .ok l k → Cod l
  | 0, _, _, _, _, _, _, h => by rw [setF] at h; cases h
  | f + 1, first, i, k, acc, l, ha, h => by
    rw [setF] at h
    split at h
    · cases h; exact ha
    · split at h
      · cases h
      · rename_i m k1 h1
        refine set_cod (fun r hr => ?_) h
        rcases List.mem_append.1 hr with q | q
        · exact ha r q
        · exact itm_cod h1 r q
theorem rise_B : ∀ (l : List (Int × Int)) (m : Int), Rise l → (∀ r ∈ l, m ≤ r.1 ∧ r.2 ≤ 1114367) → riseB m l = true
  | [], _, _, _ => rfl
  | r :: l, m, h, hb => by
    have h1 := h.1 r List.mem_cons_self
    have h2 := hb r List.mem_cons_self
    obtain ⟨p1, p2⟩ := List.pairwise_cons.1 h.2
    rw [riseB, if_neg (by omega)]
    refine rise_B l _ ⟨fun x hx => h.1 x (List.mem_cons_of_mem _ hx), p2⟩ fun x hx => ⟨?_, (hb x (List.mem_cons_of_mem _ hx)).2⟩
    have := p1 x hx
    omega
theorem join_B {l : List (Int × Int)} (h : Cod l) : riseB 0 (joinR l) = true := by
  have hf : Fit l := fun r hr => (h r hr).2.1
  have hr := join_rise hf
  have hp : (srtR [] l).Perm l := by simpa using srt_perm l []
  have hc : ∀ x, cov (joinR l) x ↔ cov l x := fun x => by
    have := (jnH_spec (srt_low l [] .nil) (fun r hr => hf r (hp.mem_iff.1 hr))).2 x
    exact this.trans (cov_perm hp x)
  refine rise_B _ 0 hr fun r hx => ?_
  have hf2 := hr.1 r hx
  obtain ⟨q1, m1, _, _⟩ := (hc r.1).1 ⟨r, hx, Int.le_refl _, hf2⟩
  obtain ⟨q2, m2, _, _⟩ := (hc r.2).1 ⟨r, hx, hf2, Int.le_refl _⟩
  have a1 := h q1 m1
  have a2 := h q2 m2
  omega
theorem shape_k (n : Int) (h : enoughB n 0 = true) (h7 : n ≠ 7) (h4 : n ≠ 4) {d : Nat} (hd : 0 < d) : (trK n).shape d = true :=
  shape_mk hd h (fun e => absurd e h7) (fun e => absurd e h4) (by rw [Tr.shapes])
theorem shape_c (c : Nat) {d : Nat} (hd : 0 < d) : (trC c).shape d = true := shape_mk hd rfl (fun e => absurd e (by decide)) (fun e => absurd e (by decide)) (by rw [Tr.shapes])
theorem shape_s (neg : Bool) (set : List (Int × Int)) (hs : riseB 0 set = true) {d : Nat} (hd : 0 < d) : (trS neg set).shape d = true := shape_mk hd rfl (fun e => absurd e (by decide)) (fun _ => hs) (by rw [Tr.shapes])
theorem mrk_shape {s : ByteArray} {b : Bool} {a i k d : Nat} {t : Tr} (hd : 0 < d) (h : mrkF s b a i = .ok t k) : t.shape d = true := by
  unfold mrkF at h
  rcases ite_or h with ⟨_, h⟩ | ⟨_, h⟩
  · cases h
  iterate 6
    rcases ite_or h with ⟨_, h⟩ | ⟨_, h⟩
    · cases h
      exact shape_k _ rfl (by decide) (by decide) hd
  iterate 4
    rcases ite_or h with ⟨_, h⟩ | ⟨_, h⟩
    · cases h
      exact shape_s _ _ rfl hd
  cases hm : meantF (nextZ s i b).1 with
  | none => rw [hm] at h; cases h
  | some c => rw [hm] at h; cases h; exact shape_c _ hd
theorem brk_shape {s : ByteArray} {b : Bool} {a i k d : Nat} {t : Tr} (hd : 0 < d) (h : brkF s b a i = .ok t k) : t.shape d = true := by
  unfold brkF at h
  split at h
  · cases h
  · rename_i hm
    cases h
    exact shape_s _ _ (join_B (set_cod (by intro _ hx; cases hx) hm)) hd
def GrpSh (s : ByteArray) (grp : Nat → Nat → Rs Tr) : Prop := ∀ a i k t, a < i → i ≤ s.size → grp a i = .ok t k → t.shape (k - a) = true
theorem node_shape {grp : Nat → Nat → Rs Tr} {s : ByteArray} {b : Bool} {i k : Nat} {t : Tr} (hgi : GrpIn s grp) (hg : GrpSh s grp) (hi : i < s.size) (h : nodeF grp s b i = .ok t k) : t.shape (k - i) = true := by
  have h0 := node_in hgi hi h
  have h1 := nx_in s b i hi
  unfold nodeF at h
  rcases ite_or h with ⟨_, h⟩ | ⟨_, h⟩
  · exact hg _ _ _ _ (by omega) h1.2 h
  rcases ite_or h with ⟨_, h⟩ | ⟨_, h⟩
  · exact brk_shape (by omega) h
  rcases ite_or h with ⟨_, h⟩ | ⟨_, h⟩
  · exact mrk_shape (by omega) h
  rcases ite_or h with ⟨_, h⟩ | ⟨_, h⟩
  · cases h; exact shape_k _ rfl (by decide) (by decide) (by omega)
  rcases ite_or h with ⟨_, h⟩ | ⟨_, h⟩
  · cases h; exact shape_k _ rfl (by decide) (by decide) (by omega)
  rcases ite_or h with ⟨_, h⟩ | ⟨_, h⟩
  · cases h; exact shape_k _ rfl (by decide) (by decide) (by omega)
  · cases h; exact shape_c _ (by omega)
/-- The nodes of a row, n bytes so far. -/
def RowI (kids : List Tr) (n : Nat) : Prop := kids.length ≤ n ∧ ∀ t ∈ kids, t.shape (n + 1 - kids.length) = true
theorem RowI.tog {kids : List Tr} {n : Nat} (h : RowI kids n) : (togF 5 kids).shape (max 1 n) = true := by
  match kids, h with
  | [], _ => exact shape_k 1 rfl (by decide) (by decide) (by omega)
  | [t], h => exact shape_mono t _ _ (by simp; omega) (h.2 t List.mem_cons_self)
  | a :: b :: l, h =>
    have hl := h.1
    simp only [List.length_cons] at hl
    refine shape_mk (by omega) (by simp [enoughB]) (fun e => absurd e (by decide)) (fun e => absurd e (by decide)) (shapes_mem.2 fun t ht => shape_mono t _ _ ?_ (h.2 t ht))
    simp only [List.length_cons]
    omega
theorem rep_ok {s : ByteArray} {i k : Nat} {r : Int × Int} (h : repF s i = some (.ok r k)) : repsF r.1 r.2 = true := by
  unfold repF at h
  rcases ite_or h with ⟨_, h⟩ | ⟨_, h⟩
  · cases h; rfl
  rcases ite_or h with ⟨_, h⟩ | ⟨_, h⟩
  · cases h; rfl
  rcases ite_or h with ⟨_, h⟩ | ⟨_, h⟩
  · cases h; rfl
  unfold ivlF at h
  split at h
  · cases h
  · split at h
    · cases h
    · split at h
      · rename_i hr
        cases h
        exact hr
      · cases h
theorem row_shape {grp : Nat → Nat → Rs Tr} {s : ByteArray} {b : Bool} (hgi : GrpIn s grp) (hg : GrpSh s grp) : ∀ {f i k n : Nat} {kids : List Tr} {t : Tr}, i ≤ s.size → RowI kids n → rowF grp s b f i kids = .ok t k → t.shape (max 1 (n + (k - i))) = true
  | 0, _, _, _, _, _, _, _, h => by rw [rowF] at h; cases h
  | f + 1, i, k, n, kids, t, hi, hR, h => by
    by_cases he : rowE s i
    · rw [row_end he] at h
      cases h
      rw [Nat.sub_self, Nat.add_zero]
      exact hR.tog
    have hlt : i < s.size := by unfold rowE at he; omega
    have hnode : (kids = [] ∨ repF s i = none) → t.shape (max 1 (n + (k - i))) = true := fun hc => by
      cases hn : nodeF grp s b i with
      | bad k2 e => rw [row_nodebad he hc hn] at h; cases h
      | ok u k2 =>
        rw [row_node he hc hn] at h
        have h1 := node_in hgi hlt hn
        have h2 := node_shape hgi hg hlt hn
        have h3 := row_in hgi h1.2 h
        have hl := hR.1
        have := row_shape hgi hg (n := n + (k2 - i)) h1.2 ⟨by simp; omega, fun x hx => ?_⟩ h
        · rw [show n + (k2 - i) + (k - k2) = n + (k - i) by omega] at this
          exact this
        · rcases List.mem_append.1 hx with q | q
          · exact shape_mono x _ _ (by simp; omega) (hR.2 x q)
          · rw [List.mem_singleton.1 q]
            exact shape_mono u _ _ (by simp; omega) h2
    rcases List.eq_nil_or_concat kids with e | ⟨ks, x, e⟩
    · exact hnode (.inl e)
    · cases hr : repF s i with
      | none => exact hnode (.inr hr)
      | some r =>
        rw [List.concat_eq_append] at e
        subst e
        cases r with
        | bad k2 e => rw [row_repbad he hr] at h; cases h
        | ok r k2 =>
          rw [row_rep he hr] at h
          have h1 := rep_in hr
          have h3 := row_in hgi h1.2 h
          have hl := hR.1
          rw [List.length_append, List.length_singleton] at hl
          have := row_shape hgi hg (n := n + (k2 - i)) h1.2 ⟨by simp; omega, fun y hy => ?_⟩ h
          · rw [show n + (k2 - i) + (k - k2) = n + (k - i) by omega] at this
            exact this
          · rcases List.mem_append.1 hy with q | q
            · exact shape_mono y _ _ (by simp; omega) (hR.2 y (List.mem_append_left _ q))
            · rw [List.mem_singleton.1 q]
              have hx := hR.2 x (List.mem_append_right _ (List.mem_singleton.2 rfl))
              refine shape_mk (by simp; omega) rfl (fun _ => rep_ok hr) (fun e => absurd e (by decide)) ?_
              rw [Tr.shapes, Tr.shapes, Bool.and_true]
              exact shape_mono x _ _ (by simp; omega) hx
theorem ch_shape {grp : Nat → Nat → Rs Tr} {s : ByteArray} {b : Bool} (hgi : GrpIn s grp) (hg : GrpSh s grp) : ∀ {f i k n : Nat} {kids : List Tr} {t : Tr}, i ≤ s.size → kids.length ≤ n → (∀ t ∈ kids, t.shape (max 1 (n - kids.length)) = true) → chF grp s b f i kids = .ok t k → t.shape (max 2 (n + (k - i))) = true
  | 0, _, _, _, _, _, _, _, _, h => by rw [chF] at h; cases h
  | f + 1, i, k, n, kids, t, hi, hl, hK, h => by
    rw [chF] at h
    split at h
    · cases h
    · rename_i u k1 hr
      have h1 := row_in hgi hi hr
      have h2 := row_shape hgi hg (n := 0) hi ⟨Nat.le_refl _, by intro _ hx; cases hx⟩ hr
      rw [Nat.zero_add] at h2
      split at h
      · rename_i hs
        have hlt := st1_lt hs
        have h3 := ch_in hgi (by omega) h
        have := ch_shape hgi hg (n := n + (k1 - i) + 1) (by omega) (by simp; omega) (fun x hx => ?_) h
        · rw [show n + (k1 - i) + 1 + (k - (k1 + 1)) = n + (k - i) by omega] at this
          exact this
        · rcases List.mem_append.1 hx with q | q
          · exact shape_mono x _ _ (by simp; omega) (hK x q)
          · rw [List.mem_singleton.1 q]
            exact shape_mono u _ _ (by simp; omega) h2
      · cases h
        match kids, hl, hK with
        | [], _, _ => exact shape_mono u _ _ (by omega) h2
        | x :: l, hl, hK =>
          rw [tog_two 6 _ (by simp)]
          simp only [List.length_cons] at hl
          refine shape_mk (by omega) (by simp [enoughB]) (fun e => absurd e (by decide)) (fun e => absurd e (by decide)) (shapes_mem.2 fun y hy => ?_)
          rcases List.mem_append.1 hy with q | q
          · exact shape_mono y _ _ (by simp only [List.length_cons]; omega) (hK y q)
          · rw [List.mem_singleton.1 q]
            exact shape_mono u _ _ (by omega) h2
theorem grp_shape (s : ByteArray) (b : Bool) : ∀ d, GrpSh s (grpF s b d)
  | 0 => fun a i k t _ _ h => by rw [grpF] at h; cases h
  | d + 1 => fun a i k t ha hi h => by
    rw [grpF] at h
    split at h
    · cases h
    · rename_i u k1 hc
      split at h
      · cases h
        have h1 := ch_in (grp_in s b d) hi hc
        have := ch_shape (grp_in s b d) (grp_shape s b d) (n := 0) hi (Nat.le_refl _) (by intro _ hx; cases hx) hc
        exact shape_mono _ _ _ (by omega) this
      · cases h
/-- What a pattern reads as may be. -/
theorem parse_shape {s : ByteArray} {b : Bool} {t : Tr} {p : Nat} (h : rxParse s b = (t, p, 0)) : t.shape 1024 = true ∧ t.wt ≤ 200 := by
  unfold rxParse at h
  split at h
  · simp at h
  rename_i h0
  split at h
  · rename_i k e hc
    simp only [Prod.mk.injEq] at h
    have := er_ch (er_grp s b 40) s b _ _ _ k e hc
    omega
  · rename_i u k hc
    split at h
    · rename_i hk
      split at h
      · simp at h
      · rename_i hw
        simp only [Prod.mk.injEq, and_true] at h
        obtain ⟨rfl, rfl⟩ := h
        have := ch_shape (grp_in s b 40) (grp_shape s b 40) (n := 0) (Nat.zero_le _) (Nat.le_refl _) (by intro _ hx; cases hx) hc
        exact ⟨shape_mono _ _ _ (by omega) this, by omega⟩
    · simp at h
end Go.Proofs.YtdfacbcenogplaaDoor

namespace Go.Proofs.YtdfacbcenogplaaDoor

/-- Of all from here on it is the one that begins first, and of those the longest. -/
structure Told (On : Nat → Prop) (L : Nat → Nat → Prop) (found : Bool) (st en : Nat) : Prop where
  sure : found = true → On st ∧ L st en
  all : ∀ a b, On a → L a b → found = true ∧ (st < a ∨ (st = a ∧ b ≤ en))
theorem Best.told {E : NEnv} {t : Tr} (h : t.fine) {o st en : Nat} {found : Bool} (hb : Best E (t.laid 0 [insDone]).2 (fun _ _ => False) o (t.laid 0 [insDone]).1 found st en) : Told (NOn E o) (t.leads E) found st en :=
  ⟨fun hf => ⟨(hb.sure hf).1, (laid_whole E t h st en).1 (hb.sure hf).2.1⟩, fun a b ha hl => (hb.all a b ha ((laid_whole E t h a b).2 hl)).elim (fun q => q.1.elim) id⟩
theorem Told.uniq {On : Nat → Prop} {L : Nat → Nat → Prop} {f f' : Bool} {s s' e e' : Nat} (h : Told On L f s e) (k : Told On L f' s' e') : f = f' ∧ (f = true → s = s' ∧ e = e') := by
  have hf : f = f' := by
    cases f with
    | true => exact ((k.all _ _ (h.sure rfl).1 (h.sure rfl).2).1).symm
    | false =>
      cases f' with
      | false => rfl
      | true => exact absurd (h.all _ _ (k.sure rfl).1 (k.sure rfl).2).1 (by decide)
  refine ⟨hf, fun ht => ?_⟩
  have h1 := (k.all _ _ (h.sure ht).1 (h.sure ht).2).2
  have h2 := (h.all _ _ (k.sure (hf ▸ ht)).1 (k.sure (hf ▸ ht)).2).2
  omega
/-- Does the second one come first? -/
def sooner (f1 : Bool) (s1 e1 : Nat) (f2 : Bool) (s2 e2 : Nat) : Bool := !f1 || (f2 && (decide (s2 < s1) || (decide (s2 = s1) && decide (e1 < e2))))
/-- Of a choice of two. -/
theorem Told.or {On : Nat → Prop} {L1 L2 L : Nat → Nat → Prop} {f1 f2 : Bool} {s1 e1 s2 e2 : Nat} (h : Told On L1 f1 s1 e1) (k : Told On L2 f2 s2 e2) (hL : ∀ a b, L a b ↔ L1 a b ∨ L2 a b) :
    Told On L (f1 || f2) (if sooner f1 s1 e1 f2 s2 e2 then s2 else s1) (if sooner f1 s1 e1 f2 s2 e2 then e2 else e1) := by
  cases f1 with
  | false =>
    have : sooner false s1 e1 f2 s2 e2 = true := rfl
    rw [this, if_pos rfl, if_pos rfl, Bool.false_or]
    refine ⟨fun hf => ⟨(k.sure hf).1, (hL _ _).2 (.inr (k.sure hf).2)⟩, fun a b ha hl => ?_⟩
    rcases (hL a b).1 hl with q | q
    · exact absurd (h.all a b ha q).1 (by decide)
    · exact k.all a b ha q
  | true =>
    cases f2 with
    | false =>
      have : sooner true s1 e1 false s2 e2 = false := rfl
      rw [this, if_neg (by decide), if_neg (by decide)]
      refine ⟨fun _ => ⟨(h.sure rfl).1, (hL _ _).2 (.inl (h.sure rfl).2)⟩, fun a b ha hl => ?_⟩
      rcases (hL a b).1 hl with q | q
      · exact h.all a b ha q
      · exact absurd (k.all a b ha q).1 (by decide)
    | true =>
      by_cases c : s2 < s1 ∨ (s2 = s1 ∧ e1 < e2)
      · have : sooner true s1 e1 true s2 e2 = true := by
          unfold sooner
          simp
          omega
        rw [this, if_pos rfl, if_pos rfl]
        refine ⟨fun _ => ⟨(k.sure rfl).1, (hL _ _).2 (.inr (k.sure rfl).2)⟩, fun a b ha hl => ?_⟩
        rcases (hL a b).1 hl with q | q
        · have := (h.all a b ha q).2
          exact ⟨rfl, by omega⟩
        · exact k.all a b ha q
      · have : sooner true s1 e1 true s2 e2 = false := by
          unfold sooner
          simp
          omega
        rw [this, if_neg (by decide), if_neg (by decide)]
        refine ⟨fun _ => ⟨(h.sure rfl).1, (hL _ _).2 (.inl (h.sure rfl).2)⟩, fun a b ha hl => ?_⟩
        rcases (hL a b).1 hl with q | q
        · exact h.all a b ha q
        · have := (k.all a b ha q).2
          exact ⟨rfl, by omega⟩
/-- What the law says of a choice. -/
theorem Told.choice {On : Nat → Prop} {L1 L2 L : Nat → Nat → Prop} {f1 f2 f : Bool} {s1 e1 s2 e2 s e : Nat} (h : Told On L1 f1 s1 e1) (k : Told On L2 f2 s2 e2) (g : Told On L f s e) (hL : ∀ a b, L a b ↔ L1 a b ∨ L2 a b) :
    f = (f1 || f2) ∧ (f = true → s = (if sooner f1 s1 e1 f2 s2 e2 then s2 else s1) ∧ e = (if sooner f1 s1 e1 f2 s2 e2 then e2 else e1)) := g.uniq (h.or k hL)
end Go.Proofs.YtdfacbcenogplaaDoor

namespace Go.Proofs.YtdfacbcenogplaaDoor
open Go.RowKit Go.Lib

/-- A row of one node. -/
theorem Kds.one {w : World} {n m : Nat} {t : Tr} {vs : Array Value} (ht : TrV w (fun c => m ≤ c) t vs) (hnm : n ≤ m) (hm : m ≤ w.heap.size) : Kds (w.alloc (.cells vs 58)) n (.slice (some ⟨w.heap.size, 0, none⟩) 1 1) [t] := by
  have ho : (w.alloc (.cells vs 58)).ownsRow n 58 7 (.slice (some ⟨w.heap.size, 0, none⟩) 1 1) 1 vs.toList := World.ownsRow_lit w vs 1 (Nat.le_trans hnm hm) (by decide) (by rw [ht.1])
  refine ⟨vs.toList, ho, fun j u hj => ?_⟩
  have hj0 : j = 0 := by
    have := (List.getElem?_eq_some_iff.1 hj).1
    simp at this
    omega
  subst hj0
  have hu : t = u := by simpa using hj
  subst hu
  refine (ht.2.kept (fun g hg hp => ?_)).congr fun i hi => ?_
  · have hp : m ≤ g := hp
    exact ⟨⟨by omega, fun e => by have h2 : g = w.heap.size := Option.some.inj e; omega⟩, Below.heap_alloc w _ g hg⟩
  · rw [rdL, Nat.zero_mul, Nat.zero_add, Array.getElem?_toList]
set_option maxRecDepth 100000 in
set_option maxHeartbeats 4000000 in
theorem rx_choice {W : World} {pb d : Nat} {s : ByteArray} {b : Bool} {i n : Nat} (hg : GrpOk s b d) (hn : n + d = 40) (h : Prs W pb s b i n) (hi : i ≤ s.size) (hs : s.size ≤ 1024) (hE : Env W pb) :
    Calls Tryd.prog 76 #[pbP pb] W (RxOut (gTr W.heap.size) pb s b n W (chD s b d i)) := by
  have hlt := Blk.lt h
  have F0 := Blk.new W zero7 58
  have S0 := (Stp.refl h).alloc (.cells zero7 58)
  have hE0 := hE.step S0 hlt
  have hsz0 : (W.alloc (.cells zero7 58)).heap.size = W.heap.size + 1 := by simp
  obtain ⟨i0, hi0, hz0, hz1, hz2⟩ := info_parts info_rx
  have HI := Lib.hid (And.intro hi0 (And.intro hz0 (And.intro hz1 hz2)))
  obtain ⟨W0, hW0⟩ : ∃ W0, W.alloc (.cells zero7 58) = W0 := ⟨_, rfl⟩
  rw [hW0] at F0 S0 hE0 hsz0
  have hlt0 : pb < W0.heap.size := by omega
  have hsA : W.heap.size < W0.heap.size := by omega
  have hneB : pb ≠ W.heap.size := by omega
  clear hsz0
  have HS0 := Lib.hid S0
  have HKF := Lib.hid (fun (w : World) (j : Nat) (hS : Stp pb s b j n W0 w) => show Blk w W.heap.size zero7 58 from ⟨(hS.off.block _ F0.lt (Ne.symm hneB) (Ne.symm hneB)).trans F0.row⟩)
  have HE := Lib.hid (fun (w : World) (j : Nat) (hS : Stp pb s b j n W0 w) => hE0.step hS hlt0)
  have GI := Lib.hid (grp_in s b d)
  have HRow := Lib.hid (fun (w : World) (j : Nat) (hj : j ≤ s.size) (hS : Stp pb s b j n W0 w) => rx_row hg hn hS.prs hj hs (hE0.step hS hlt0))
  obtain ⟨R, hR⟩ : ∃ R, chD s b d i = R := ⟨_, rfl⟩
  have hR0 : chF (grpF s b d) s b (s.size + 1) i [] = R := hR
  rw [hR]
  obtain ⟨Q0, hQ0⟩ : ∃ Q, rowF (grpF s b d) s b (s.size + 1) i [] = Q := ⟨_, rfl⟩
  rw [chF, hQ0] at hR0
  have CR0 := HRow.out _ i hi (Stp.refl S0.prs)
  rw [hQ0] at CR0
  have CR0 := Lib.hid CR0
  clear h hE hE0 S0 F0 hi0 hz0 hz1 hz2 hR hg
  cases Q0 with
  | bad ka er =>
    have HR2 := Lib.hid (show R = .bad ka er from hR0.symm)
    clear hR0 hQ0
    go_enter Tryd.func76, Tryd.ntmps76
    go_wp2_with fail
    clear hW0
    refine CR0.out.mono ?_
    rintro e w1 ⟨rfl, hO⟩
    have HO := Lib.hid hO
    clear hO CR0
    go_wp2_with fail
    rw [HR2.out]
    exact ⟨rfl, rfl, HS0.out.off.trans HO.out⟩
  | ok t k0 =>
    have hk0 := row_in GI.out hi hQ0
    have HR0 := Lib.hid hR0
    clear hR0 hQ0
    go_enter Tryd.func76, Tryd.ntmps76
    go_wp2_with fail
    clear hW0
    refine CR0.out.mono ?_
    rintro e w1 ⟨vv, rfl, ⟨vs, rfl, ht⟩, hS1⟩
    obtain ⟨kind, code, neg, A3, n3, c3, lo, hi', A2, n2, c2, rfl⟩ := ht.form
    have K1 := Lib.hid (Kds.one (n := W0.heap.size) ht (Nat.le_refl _) hS1.off.size)
    have S1 := Lib.hid (hS1.alloc (.cells #[.int .i64 kind, .int .i64 code, .bool neg, .slice A3 n3 c3, .int .i64 lo, .int .i64 hi', .slice A2 n2 c2] 58))
    clear ht hS1 CR0
    go_wp2_with fail
    go_loopw [3] (fun sv wr => ∃ (v : Value) (j : Nat) (us : List Tr) (t : Tr) (f : Nat), v = sv ∧ Stp pb s b j n W0 wr ∧ j ≤ s.size ∧ Kds wr W0.heap.size v (us ++ [t]) ∧ us.length ≤ j ∧ (if st1 s j 124 then chF (grpF s b d) s b f (j + 1) (us ++ [t]) else .ok (togF 6 (us ++ [t])) j) = R ∧ (j < s.size → s.size - (j + 1) < f)) (fun _ wr => s.size - (match wr.cell? ⟨pb, 2, none⟩ with | some v => (RowKit.intOf v).toNat | none => 0))
    case atStart => exact ⟨_, k0, [], t, s.size, rfl, S1.out, hk0.2, K1.out, by simp, HR0.out, fun _ => by omega⟩
    case round =>
      obtain ⟨v, j, us, t, f, rfl, hS, hj, hK, hkl, hR2, hf⟩ := hrel
      have HSr := Lib.hid hS
      have q2r := hS.prs.four.2.2.1
      obtain ⟨p1, e1⟩ : ∃ p, st1 s j 124 = p := ⟨_, rfl⟩
      have CT := Lib.hid (rx_take1 hS.prs hj hs 124 p1 e1)
      obtain ⟨A, cp, hv⟩ := hK.slice
      obtain ⟨xs, ho, hx⟩ := hK
      have KI : Kds wr W0.heap.size v (us ++ [t]) := ⟨xs, ho, hx⟩
      have HKW := Lib.hid (fun (w : World) (o : Off2 pb pb wr w) => KI.kept (w' := w) (fun g hg hp => o.block g hg (by omega) (by omega)))
      have HOW := Lib.hid (fun (w : World) (o : Off2 pb pb wr w) => own_off ho o hlt0)
      have HXW := Lib.hid (fun (w : World) (o : Off2 pb pb wr w) (jj : Nat) (t' : Tr) (ht : (us ++ [t])[jj]? = some t') => (hx jj t' ht).kept (w' := w) (P' := fun g => W0.heap.size ≤ g ∧ some g ≠ v.ownBlock) (fun g hg hp => ⟨hp, o.block g hg (by omega) (by omega)⟩))
      have hll : (us ++ [t]).length = us.length + 1 := by simp
      obtain ⟨m1, hm1⟩ : ∃ m1, us.length + 1 = m1 := ⟨_, rfl⟩
      rw [hm1] at hll
      have hv1 : v = .slice A (us ++ [t]).length cp := hv
      rw [hll] at hv
      rw [e1] at hR2
      cases p1 with
      | false =>
        simp only [Bool.false_eq_true, if_false] at hR2
        have HRE := Lib.hid (show R = .ok (togF 6 (us ++ [t])) j from hR2.symm)
        have cto := fun (w : World) (hI : Tr.Ins w (fun g => W0.heap.size ≤ g) (us ++ [t]) A 0) => rx_together hI (by omega) 6 cp
        simp only [hll] at cto
        have CTo := Lib.hid cto
        have HIN := Lib.hid (fun (w : World) (o : Off2 pb pb wr w) => (show Kds w W0.heap.size (.slice A (us ++ [t]).length cp) (us ++ [t]) from hv1 ▸ HKW.out w o).ins)
        obtain ⟨T6, hT6⟩ : ∃ T, togF 6 (us ++ [t]) = T := ⟨_, rfl⟩
        rw [hT6] at HRE CTo
        clear hv1 HKW cto hT6
        subst hv
        clear ho hx KI hR2 hS q2r HOW HXW e1
        go_wp2_with fail
        refine CT.out.mono ?_
        rintro e w2 ⟨rfl, hSt⟩
        have HSt := Lib.hid (show Stp pb s b j n wr w2 from hSt)
        clear hSt CT
        go_wp2_with fail
        refine (CTo.out _ (HIN.out _ HSt.out.off)).mono ?_
        rintro e w4 ⟨vs, rfl, ht, hb⟩
        obtain ⟨kind, code, neg, A3, n3, c3, lo, hi', A2, n2, c2, rfl⟩ := ht.form
        have S4 := (HSr.out.trans HSt.out).below hb
        have F2 := HKF.out _ _ S4
        have FIN := Lib.hid (node_put (HS0.out.trans S4) F2 ht hsA)
        clear ht hb S4 CTo HIN
        obtain ⟨z7, _⟩ := rx_end7 (.int .i64 kind) (.int .i64 code) (.bool neg) (.slice A3 n3 c3) (.int .i64 lo) (.int .i64 hi') (.slice A2 n2 c2) F2
        obtain ⟨⟨y0, y1, y2, y3, y4, y5, y6⟩, _⟩ := z7.seven
        obtain ⟨⟨k0, k1, k2, k3, k4, k5, k6⟩, f0, f1', f2, f3, f4, f5, f6⟩ := F2.seven
        unfold put7 at y0 y1 y2 y3 y4 y5 y6
        clear F2 z7
        go_wp2_with fail
        rw [HRE.out]
        exact bodyPost_ret (v := .agg #[.int .i64 kind, .int .i64 code, .bool neg, .slice A3 n3 c3, .int .i64 lo, .int .i64 hi', .slice A2 n2 c2]) (by simp [results, Tryd.results76, go_sem, y0, y1, y2, y3, y4, y5, y6]) rfl FIN.out
      | true =>
        simp only [if_true] at hR2
        have hj1 := st1_lt e1
        obtain ⟨f1, rfl⟩ : ∃ g, f = g + 1 := ⟨f - 1, by have := hf hj1; omega⟩
        obtain ⟨Q, hQ⟩ : ∃ Q, rowF (grpF s b d) s b (s.size + 1) (j + 1) [] = Q := ⟨_, rfl⟩
        rw [chF, hQ] at hR2
        have CN := fun w (hS : Stp pb s b (j + 1) n W0 w) => HRow.out w (j + 1) hj1 hS
        rw [hQ] at CN
        have CN := Lib.hid CN
        cases Q with
        | bad ka er =>
          have HR2 := Lib.hid (show R = .bad ka er from hR2.symm)
          clear hQ hR2 ho hx KI hS q2r HOW HXW HKW e1 hv1
          go_wp2_with fail
          refine CT.out.mono ?_
          rintro e w2 ⟨rfl, hSt⟩
          have HSt := Lib.hid (show Stp pb s b (j + 1) n wr w2 from hSt)
          clear hSt CT
          go_wp2_with fail
          refine (CN.out _ (HSr.out.trans HSt.out)).mono ?_
          rintro e w3 ⟨rfl, hO⟩
          have HO := Lib.hid hO
          clear hO CN
          go_wp2_with fail
          rw [HR2.out]
          exact ⟨rfl, rfl, HS0.out.off.trans ((HSr.out.trans HSt.out).off.trans HO.out)⟩
        | ok t2 ka =>
          have hjk := row_in GI.out hj1 hQ
          have HR2 := Lib.hid hR2
          have hvb := fun q hq => (ho.lt q hq)
          have HVB := Lib.hid hvb
          clear hQ hR2 ho hx KI hS HKW hvb e1 hv1
          subst hv
          go_wp2_with fail
          refine CT.out.mono ?_
          rintro e w2 ⟨rfl, hSt⟩
          have HSt := Lib.hid (show Stp pb s b (j + 1) n wr w2 from hSt)
          clear hSt CT
          go_wp2_with fail
          refine (CN.out _ (HSr.out.trans HSt.out)).mono ?_
          rintro e w3 ⟨vv, rfl, ⟨vs, rfl, ht⟩, hS3⟩
          obtain ⟨kind, code, neg, A3, n3, c3, lo, hi', A2, n2, c2, rfl⟩ := ht.form
          have S3 := Lib.hid ((HSr.out.trans HSt.out).trans hS3)
          have O3 := Lib.hid (HSt.out.off.trans hS3.off)
          have hz3 := O3.out.size
          have hz4 := HSt.out.off.size
          have hz6 := HSr.out.off.size
          have HT3 := Lib.hid ht
          have OW3 := Lib.hid (HOW.out _ O3.out)
          have OWm := Lib.hid (show w3.ownsRow W0.heap.size 58 7 (.slice A m1 cp) m1 xs from by have h9 := OW3.out; rwa [hll] at h9)
          have RN := Lib.hid (show ∀ jj u, [.int .i64 kind, .int .i64 code, .bool neg, .slice A3 n3 c3, .int .i64 lo, .int .i64 hi', .slice A2 n2 c2][jj]? = some u → (w3.alloc (.cells #[.int .i64 kind, .int .i64 code, .bool neg, .slice A3 n3 c3, .int .i64 lo, .int .i64 hi', .slice A2 n2 c2] 58)).cell? ((⟨w3.heap.size, 0, none⟩ : Addr).add jj) = some u from rx_row_new w3 #[.int .i64 kind, .int .i64 code, .bool neg, .slice A3 n3 c3, .int .i64 lo, .int .i64 hi', .slice A2 n2 c2] 58)
          have hz5 := S3.out.off.size
          clear hS3 ht CN
          go_wp2_with (at_builtin; refine wpList_append_own_at _ rfl _ _ 56 rfl W0.heap.size 58 i0 _ 7 88 Tryd.underlying56 HI.out.1 HI.out.2.1 HI.out.2.2.1 HI.out.2.2.2 rfl (by decide) _ m1 xs rfl (OWm.out.alloc _) ⟨w3.heap.size, 0, none⟩ 1 1 [.int .i64 kind, .int .i64 code, .bool neg, .slice A3 n3 c3, .int .i64 lo, .int .i64 hi', .slice A2 n2 c2] rfl rfl RN.out (by simp [Value.oneCell']) (by unfold maxLen; omega) (by omega) (by simp; omega) ?_)
          rintro v' w4 ho2 hgr _ hvv
          have hX3 := (Below.refl w3.heap.size w3).alloc (Nat.le_refl _) (.cells #[.int .i64 kind, .int .i64 code, .bool neg, .slice A3 n3 c3, .int .i64 lo, .int .i64 hi', .slice A2 n2 c2] 58)
          have ho3 : w4.ownsRow W0.heap.size 58 7 v' ((us ++ [t]).length + 1) (xs ++ (#[.int .i64 kind, .int .i64 code, .bool neg, .slice A3 n3 c3, .int .i64 lo, .int .i64 hi', .slice A2 n2 c2] : Array Value).toList) := by rw [hll]; exact ho2
          have K4 := Lib.hid (Kds.snoc (m := w2.heap.size) OW3.out (HXW.out _ O3.out) HT3.out (fun q hq => Nat.lt_of_lt_of_le (HVB.out q hq).2 hz4) (Nat.le_trans hz6 hz4) hX3 ho3 hgr (by rw [World.size_alloc]; exact hvv))
          have hvb2 : ∀ q, (Value.slice A m1 cp).ownBlock = some q → W0.heap.size ≤ q := fun q hq => (HVB.out q hq).1
          have P4 : Prs w4 pb s b ka n := Blk.grown (Blk.alloc S3.out.prs _) hgr (fun e => by have := hvb2 pb e.symm; omega)
          have S4 := Lib.hid (show Stp pb s b ka n W0 w4 from ⟨P4, off_grown (S3.out.off.trans (Off2.of_below hX3)) hgr hvb2⟩)
          have q4 := P4.four.2.2.1
          clear ho2 ho3 OWm hgr hvv hX3 hvb2 P4 RN OW3 HXW HOW HVB HT3 S3 O3
          go_wp2_with fail
          refine ⟨⟨v', ka, us ++ [t], t2, f1, rfl, S4.out, hjk.2, K4.out, by rw [hll]; omega, HR2.out, fun _ => by have := hf hj1; omega⟩, ?_⟩
          rw [q4, q2r]
          simp [RowKit.intOf]
          omega
end Go.Proofs.YtdfacbcenogplaaDoor

namespace Go.Proofs.YtdfacbcenogplaaDoor
open Go.RowKit Go.Lib

set_option maxRecDepth 100000 in
set_option maxHeartbeats 2000000 in
theorem rx_group (s : ByteArray) (b : Bool) : ∀ d, GrpOk s b d
  | 0 => by
    intro W pb i n a h hn hi hs hE
    obtain rfl : n = 40 := by omega
    have CG := Lib.hid (fun W => rx_big pb a W)
    have S0 := (Stp.refl h).alloc (.cells zero7 58)
    obtain ⟨W0, hW0⟩ : ∃ W0, W.alloc (.cells zero7 58) = W0 := ⟨_, rfl⟩
    rw [hW0] at S0
    obtain ⟨_, _, _, p3, _⟩ := S0.prs.four
    have p3' : W0.cell? ⟨pb, 3, none⟩ = some (.int .i64 40) := p3
    have HS0 := Lib.hid S0
    rw [grpF]
    clear h hE S0 p3
    go_enter Tryd.func140, Tryd.ntmps140
    go_wp2_with fail
    refine (CG.out _).mono ?_
    rintro e w1 ⟨rfl, rfl⟩
    clear hW0
    go_wp2_with fail
    exact ⟨rfl, rfl, HS0.out.off⟩
  | d + 1 => by
    intro W pb i n a h hn hi hs hE
    have CW := Lib.hid (fun W => rx_wrong pb a W)
    have hlt := Blk.lt h
    have F0 := Blk.new W zero7 58
    have S0 := (Stp.refl h).alloc (.cells zero7 58)
    have hE0 := hE.step S0 hlt
    have hsz0 : (W.alloc (.cells zero7 58)).heap.size = W.heap.size + 1 := by simp
    obtain ⟨W0, hW0⟩ : ∃ W0, W.alloc (.cells zero7 58) = W0 := ⟨_, rfl⟩
    rw [hW0] at F0 S0 hE0 hsz0
    have hlt0 : pb < W0.heap.size := by omega
    have hsA : W.heap.size < W0.heap.size := by omega
    have hneB : pb ≠ W.heap.size := by omega
    clear hsz0
    obtain ⟨n1, hn1⟩ : ∃ n1, n + 1 = n1 := ⟨_, rfl⟩
    have S1 : Stp pb s b i n1 W0 (W0.setCell ⟨pb, 3, none⟩ (.int .i64 (n1 : Int))) := (Stp.refl S0.prs).open n1
    have hw1 : IntKind.i64.wrap ((n : Int) + 1) = (n1 : Int) := by simp [IntKind.wrap, IntKind.bits, IntKind.signed]; omega
    have hw2 : IntKind.i64.wrap ((n1 : Int) - 1) = (n : Int) := by simp [IntKind.wrap, IntKind.bits, IntKind.signed]; omega
    have hn40 : ((n : Int) == 40) = false := by rw [beq_eq_false_iff_ne]; omega
    obtain ⟨_, _, _, p3, _, f3⟩ := S0.prs.four
    have CC := rx_choice (rx_group s b d) (show n1 + d = 40 by omega) S1.prs hi hs (hE0.step S1 hlt0)
    have HS0 := Lib.hid S0
    obtain ⟨W1, hW1⟩ : ∃ W1, W0.setCell ⟨pb, 3, none⟩ (.int .i64 (n1 : Int)) = W1 := ⟨_, rfl⟩
    rw [hW1] at S1 CC
    have HS1 := Lib.hid S1
    have hs1 := S1.off.size
    have HKF := Lib.hid (fun (w : World) (j m : Nat) (hS : Stp pb s b j m W0 w) => show Blk w W.heap.size zero7 58 from ⟨(hS.off.block _ F0.lt (Ne.symm hneB) (Ne.symm hneB)).trans F0.row⟩)
    have CI := Lib.hid (fun (x : Tr) (k : Nat) (hh : chD s b d i = .ok x k) => chD_in hi hh)
    have e0 : grpF s b (d + 1) a i = match chD s b d i with | .bad k e => .bad k e | .ok t k => if st1 s k 41 then .ok t (k + 1) else .bad a 90 := by
      rw [grpF]
      rfl
    rw [e0]
    clear h hE hE0 S0 F0 S1 e0
    cases hQ : chD s b d i with
    | bad ka er =>
      rw [hQ] at CC
      have CC := Lib.hid CC
      clear hQ CI
      go_enter Tryd.func140, Tryd.ntmps140
      go_wp2_with fail
      refine CC.out.mono ?_
      rintro e w2 ⟨rfl, hO⟩
      have HO := Lib.hid hO
      clear hO CC hW0 hW1
      go_wp2_with fail
      exact ⟨rfl, rfl, HS0.out.off.trans (HS1.out.off.trans HO.out)⟩
    | ok t k =>
      have hk := CI.out t k hQ
      rw [hQ] at CC
      have CC := Lib.hid CC
      obtain ⟨p1, e1⟩ : ∃ p, st1 s k 41 = p := ⟨_, rfl⟩
      have CT := Lib.hid (fun w (hS : Stp pb s b k n1 W0 w) => rx_take1 hS.prs hk.2 hs 41 p1 e1)
      dsimp only
      rw [e1]
      clear hQ CI e1
      cases p1 with
      | false =>
        simp only [Bool.false_eq_true, if_false]
        go_enter Tryd.func140, Tryd.ntmps140
        go_wp2_with fail
        refine CC.out.mono ?_
        rintro e w2 ⟨vv, rfl, ⟨vs, rfl, ht⟩, hS2⟩
        obtain ⟨kind, code, neg, A3, n3, c3, lo, hi', A2, n2, c2, rfl⟩ := ht.form
        have S2 := (HS1.out.trans hS2).alloc (.cells #[.int .i64 kind, .int .i64 code, .bool neg, .slice A3 n3 c3, .int .i64 lo, .int .i64 hi', .slice A2 n2 c2] 58)
        have HS2 := Lib.hid S2
        clear hS2 S2 ht CC hW0 hW1
        go_wp2_with fail
        refine (CT.out _ HS2.out).mono ?_
        rintro e w3 ⟨rfl, hS⟩
        have HS3 := Lib.hid (HS2.out.trans hS)
        clear hS CT
        go_wp2_with fail
        refine (CW.out _).mono ?_
        rintro e w4 ⟨rfl, rfl⟩
        go_wp2_with fail
        exact ⟨rfl, rfl, HS0.out.off.trans HS3.out.off⟩
      | true =>
        simp only [if_true]
        go_enter Tryd.func140, Tryd.ntmps140
        go_wp2_with fail
        refine CC.out.mono ?_
        rintro e w2 ⟨vv, rfl, ⟨vs, rfl, ht⟩, hS2⟩
        obtain ⟨kind, code, neg, A3, n3, c3, lo, hi', A2, n2, c2, rfl⟩ := ht.form
        have hz2 := (HS1.out.trans hS2).off.size
        have hz2b := hS2.off.size
        have S2 := (HS1.out.trans hS2).alloc (.cells #[.int .i64 kind, .int .i64 code, .bool neg, .slice A3 n3 c3, .int .i64 lo, .int .i64 hi', .slice A2 n2 c2] 58)
        have FT := Blk.new w2 #[.int .i64 kind, .int .i64 code, .bool neg, .slice A3 n3 c3, .int .i64 lo, .int .i64 hi', .slice A2 n2 c2] 58
        have hbT := (Below.refl w2.heap.size w2).alloc (Nat.le_refl _) (.cells #[.int .i64 kind, .int .i64 code, .bool neg, .slice A3 n3 c3, .int .i64 lo, .int .i64 hi', .slice A2 n2 c2] 58)
        have HS2 := Lib.hid S2
        have HT := Lib.hid (ht.kept (P' := fun c => W0.heap.size ≤ c ∧ c < w2.heap.size) (w' := w2.alloc (.cells #[.int .i64 kind, .int .i64 code, .bool neg, .slice A3 n3 c3, .int .i64 lo, .int .i64 hi', .slice A2 n2 c2] 58)) (fun g hg hp => ⟨⟨Nat.le_trans hs1 hp, hg⟩, hbT.block g hg⟩))
        have HFT := Lib.hid FT
        clear hS2 S2 ht CC hW0 hW1 FT hbT
        go_wp2_with fail
        refine (CT.out _ HS2.out).mono ?_
        rintro e w3 ⟨rfl, hS⟩
        have hS : Stp pb s b (k + 1) n1 (w2.alloc (.cells #[.int .i64 kind, .int .i64 code, .bool neg, .slice A3 n3 c3, .int .i64 lo, .int .i64 hi', .slice A2 n2 c2] 58)) w3 := hS
        have S3 := HS2.out.trans hS
        have pbne : pb < w2.heap.size := by omega
        have FT3 : Blk w3 w2.heap.size #[.int .i64 kind, .int .i64 code, .bool neg, .slice A3 n3 c3, .int .i64 lo, .int .i64 hi', .slice A2 n2 c2] 58 := ⟨(hS.off.block _ HFT.out.lt (by omega) (by omega)).trans HFT.out.row⟩
        have HT3 := HT.out.kept (w' := w3) (P' := fun c => W0.heap.size ≤ c) (fun g hg hp => ⟨hp.1, hS.off.block g hg (by omega) (by omega)⟩)
        have S4 := S3.open n
        have hE4 := HKF.out _ _ _ S4
        obtain ⟨_, _, _, r3, _, g3⟩ := S3.prs.four
        have FT4 : Blk (w3.setCell ⟨pb, 3, none⟩ (.int .i64 (n : Int))) w2.heap.size #[.int .i64 kind, .int .i64 code, .bool neg, .slice A3 n3 c3, .int .i64 lo, .int .i64 hi', .slice A2 n2 c2] 58 := Blk.other FT3 (by omega)
        have HT4 := HT3.kept (w' := w3.setCell ⟨pb, 3, none⟩ (.int .i64 (n : Int))) (P' := fun c => W0.heap.size ≤ c) (fun g hg hp => ⟨hp, Below.heap_setCell w3 ⟨pb, 3, none⟩ _ g (by have hp : W0.heap.size ≤ g := hp; show g ≠ pb; omega)⟩)
        obtain ⟨w5, hw5⟩ : ∃ w5, w3.setCell ⟨pb, 3, none⟩ (.int .i64 (n : Int)) = w5 := ⟨_, rfl⟩
        rw [hw5] at S4 hE4 FT4 HT4
        have F2 := hE4
        have FIN := Lib.hid (node_put (HS0.out.trans S4) F2 HT4 hsA)
        obtain ⟨z7, _⟩ := rx_end7 (.int .i64 kind) (.int .i64 code) (.bool neg) (.slice A3 n3 c3) (.int .i64 lo) (.int .i64 hi') (.slice A2 n2 c2) F2
        obtain ⟨⟨y0, y1, y2, y3, y4, y5, y6⟩, _⟩ := z7.seven
        obtain ⟨⟨k0, k1, k2, k3, k4, k5, k6⟩, f0, f1, f2, f3', f4, f5, f6⟩ := F2.seven
        obtain ⟨⟨t0, t1, t2, t3, t4, t5, t6⟩, _⟩ := FT4.seven
        unfold put7 at y0 y1 y2 y3 y4 y5 y6
        clear F2 z7 hS S3 FT3 HT3 S4 hE4 FT4 HT4 HT HFT HKF CT
        go_wp2_with fail
        exact bodyPost_ret (v := .agg #[.int .i64 kind, .int .i64 code, .bool neg, .slice A3 n3 c3, .int .i64 lo, .int .i64 hi', .slice A2 n2 c2]) (by simp [results, Tryd.results140, go_sem, y0, y1, y2, y3, y4, y5, y6]) rfl FIN.out
end Go.Proofs.YtdfacbcenogplaaDoor

namespace Go.Proofs.YtdfacbcenogplaaDoor
open Go.RowKit Go.Lib

set_option maxRecDepth 100000 in
set_option maxHeartbeats 1000000 in
theorem rx_idle (pt pa pe : Addr) (w : World) :
    CallsD Tryd.prog 42 #[.pointer (some pt), .pointer (some pa), .pointer (some pe)] .returning w fun e u' w' => e = .returned (.tuple #[]) ∧ u' = .returning ∧ w' = w := by
  refine callsD_of_wpS Tryd.func42 rfl fun c₀ cs hu => ?_
  apply wpS_seq
  apply wpS_region
  simp [wpOpsS, go_sem, recoverD, hu, Tryd.ntmps42, Exit.thenS]
  refine wpS_of_wp ?_
  cases c₀
  go_wp2_with fail
  simp_all [bodyPostS, results, Tryd.results42]

theorem seven_of {v : Array Value} (h : v.size = 7) : ∃ a b c d e f g, v = #[a, b, c, d, e, f, g] := by
  refine ⟨v[0], v[1], v[2], v[3], v[4], v[5], v[6], Array.ext (by simp [h]) fun i h1 h2 => ?_⟩
  match i, h2 with
  | 0, _ => rfl
  | 1, _ => rfl
  | 2, _ => rfl
  | 3, _ => rfl
  | 4, _ => rfl
  | 5, _ => rfl
  | 6, _ => rfl
theorem caught_end {W : World} {pt pa pe : Nat} {x y at0 er : Int} {v0 v1 v2 v3 v4 v5 v6 : Value} (h : Blk W pt #[v0, v1, v2, v3, v4, v5, v6] 58 ∧ Blk W pa #[.int .i64 x] 3 ∧ Blk W pe #[.int .i64 y] 36) (n1 : pt ≠ pa) (n2 : pt ≠ pe) (n3 : pa ≠ pe) :
    Blk ((((put7 W pt (.int .i64 0) (.int .i64 0) (.bool false) (.slice none 0 0) (.int .i64 0) (.int .i64 0) (.slice none 0 0)).setCell ⟨pa, 0, none⟩ (.int .i64 at0)).setCell ⟨pe, 0, none⟩ (.int .i64 er)).drew) pt zero7 58 ∧
    Blk ((((put7 W pt (.int .i64 0) (.int .i64 0) (.bool false) (.slice none 0 0) (.int .i64 0) (.int .i64 0) (.slice none 0 0)).setCell ⟨pa, 0, none⟩ (.int .i64 at0)).setCell ⟨pe, 0, none⟩ (.int .i64 er)).drew) pa #[.int .i64 at0] 3 ∧
    Blk ((((put7 W pt (.int .i64 0) (.int .i64 0) (.bool false) (.slice none 0 0) (.int .i64 0) (.int .i64 0) (.slice none 0 0)).setCell ⟨pa, 0, none⟩ (.int .i64 at0)).setCell ⟨pe, 0, none⟩ (.int .i64 er)).drew) pe #[.int .i64 er] 36 := by
  obtain ⟨h0, h1, h2⟩ := h
  obtain ⟨z7, o7⟩ := rx_end7 (.int .i64 0) (.int .i64 0) (.bool false) (.slice none 0 0) (.int .i64 0) (.int .i64 0) (.slice none 0 0) h0
  have k1 := h1.off2 o7 n1.symm n1.symm
  have k2 := h2.off2 o7 n2.symm n2.symm
  obtain ⟨W1, hW1⟩ : ∃ W1, put7 W pt (.int .i64 0) (.int .i64 0) (.bool false) (.slice none 0 0) (.int .i64 0) (.int .i64 0) (.slice none 0 0) = W1 := ⟨_, rfl⟩
  rw [hW1] at z7 k1 k2 ⊢
  have a1 := Blk.set (j := 0) (u := .int .i64 at0) k1
  have a0 := z7.other (j := 0) (u := .int .i64 at0) n1
  have a2 := k2.other (j := 0) (u := .int .i64 at0) n3.symm
  have b2 := Blk.set (j := 0) (u := .int .i64 er) a2
  have b0 := a0.other (j := 0) (u := .int .i64 er) n2
  have b1 := a1.other (j := 0) (u := .int .i64 er) n3
  exact ⟨⟨b0.row⟩, ⟨b1.row⟩, ⟨b2.row⟩⟩
theorem caught_below (W : World) {pt pa pe B : Nat} {at0 er : Int} (b1 : B ≤ pt) (b2 : B ≤ pa) (b3 : B ≤ pe) (b4 : B ≤ W.heap.size) :
    Below B W ((((put7 W pt (.int .i64 0) (.int .i64 0) (.bool false) (.slice none 0 0) (.int .i64 0) (.int .i64 0) (.slice none 0 0)).setCell ⟨pa, 0, none⟩ (.int .i64 at0)).setCell ⟨pe, 0, none⟩ (.int .i64 er)).drew) := by
  have o7 : Off2 pt pt W (put7 W pt (.int .i64 0) (.int .i64 0) (.bool false) (.slice none 0 0) (.int .i64 0) (.int .i64 0) (.slice none 0 0)) :=
    ((((((Off2.setCell W pt pt 0 _).trans (Off2.setCell _ pt pt 1 _)).trans (Off2.setCell _ pt pt 2 _)).trans (Off2.setCell _ pt pt 3 _)).trans (Off2.setCell _ pt pt 4 _)).trans (Off2.setCell _ pt pt 5 _)).trans (Off2.setCell _ pt pt 6 _)
  have h1 := o7.below b1 b1 b4
  obtain ⟨W1, hW1⟩ : ∃ W1, put7 W pt (.int .i64 0) (.int .i64 0) (.bool false) (.slice none 0 0) (.int .i64 0) (.int .i64 0) (.slice none 0 0) = W1 := ⟨_, rfl⟩
  rw [hW1] at h1 ⊢
  have h2 := (Off2.setCell W1 pa pa 0 (.int .i64 at0)).below b2 b2 (Nat.le_trans b4 h1.size)
  have h3 := (Off2.setCell (W1.setCell ⟨pa, 0, none⟩ (.int .i64 at0)) pe pe 0 (.int .i64 er)).below b3 b3 (Nat.le_trans (Nat.le_trans b4 h1.size) h2.size)
  exact below_drewN ((h1.trans h2).trans h3) 1
set_option maxRecDepth 100000 in
set_option maxHeartbeats 1000000 in
theorem rx_caught (pt pa pe : Nat) (at0 er x y : Int) (older : List PanicEntry) (w : World) (tv : Array Value) (ht : Blk w pt tv 58) (h7 : tv.size = 7) (ha : Blk w pa #[.int .i64 x] 3) (he : Blk w pe #[.int .i64 y] 36) (n1 : pt ≠ pa) (n2 : pt ≠ pe) (n3 : pa ≠ pe) :
    CallsD Tryd.prog 42 #[.pointer (some ⟨pt, 0, none⟩), .pointer (some ⟨pa, 0, none⟩), .pointer (some ⟨pe, 0, none⟩)] (.panicking ({ v := .iface 84 (.agg #[.int .i64 at0, .int .i64 er]), recovered := false } :: older)) w fun e u' w' => e = .returned (.tuple #[]) ∧ u' = .panicking ({ v := .iface 84 (.agg #[.int .i64 at0, .int .i64 er]), recovered := true } :: older) ∧ (∀ B, B ≤ pt → B ≤ pa → B ≤ pe → B ≤ w.heap.size → Below B w w') ∧ Blk w' pt zero7 58 ∧ Blk w' pa #[.int .i64 at0] 3 ∧ Blk w' pe #[.int .i64 er] 36 := by
  refine callsD_of_wpS Tryd.func42 rfl fun c₀ cs hu => ?_
  apply wpS_seq
  apply wpS_region
  simp [wpOpsS, go_sem, recoverD, hu, Tryd.ntmps42, Exit.thenS]
  refine wpS_of_wp (wp_mono (Q := fun e a w' => e = .normal ∧ a.defers = [] ∧ (∀ B, B ≤ pt → B ≤ pa → B ≤ pe → B ≤ w.heap.size → Below B w w') ∧ Blk w' pt zero7 58 ∧ Blk w' pa #[.int .i64 at0] 3 ∧ Blk w' pe #[.int .i64 er] 36) ?_ ?_)
  · clear hu
    have hta : ∀ w, (Instr.typeAssert (.iface 84 (.agg #[.int .i64 at0, .int .i64 er])) 20 84 true).run Tryd.prog w = .ok (.tuple #[.agg #[.int .i64 at0, .int .i64 er], .bool true]) w := fun _ => rfl
    have htm : (#[.pointer (some ⟨pt, 0, none⟩), .pointer (some ⟨pa, 0, none⟩), .pointer (some ⟨pe, 0, none⟩)] ++ (Array.replicate 14 undef).setIfInBounds 3 (.iface 84 (.agg #[.int .i64 at0, .int .i64 er])) : Array Value) = #[.pointer (some ⟨pt, 0, none⟩), .pointer (some ⟨pa, 0, none⟩), .pointer (some ⟨pe, 0, none⟩), undef, undef, undef, .iface 84 (.agg #[.int .i64 at0, .int .i64 er]), undef, undef, undef, undef, undef, undef, undef, undef, undef, undef] := rfl
    rw [htm]
    clear htm
    go_wp2_with fail
    have lt := ht.lt
    have la := ha.lt
    have le := he.lt
    have F := Blk.new w #[.int .i64 at0, .int .i64 er] 84
    have ht' := ht.alloc (.cells #[.int .i64 at0, .int .i64 er] 84)
    have ha' := ha.alloc (.cells #[.int .i64 at0, .int .i64 er] 84)
    have he' := he.alloc (.cells #[.int .i64 at0, .int .i64 er] 84)
    obtain ⟨v0, v1, v2, v3, v4, v5, v6, rfl⟩ := seven_of h7
    have f0 := Blk.cell F 0
    have f1 := Blk.cell F 1
    obtain ⟨⟨q0, q1, q2, q3, q4, q5, q6⟩, r0, r1, r2, r3, r4, r5, r6⟩ := ht'.seven
    have a0 := Blk.cell ha' 0
    have e0 := Blk.cell he' 0
    have a1 := Blk.fro ha' 0
    have e1 := Blk.fro he' 0
    have m1 : pt ≠ w.heap.size := by omega
    have m2 : pa ≠ w.heap.size := by omega
    have m3 : pe ≠ w.heap.size := by omega
    obtain ⟨W, hW⟩ : ∃ W, w.alloc (.cells #[.int .i64 at0, .int .i64 er] 84) = W := ⟨_, rfl⟩
    rw [hW] at f0 f1 a0 e0 a1 e1 q0 q1 q2 q3 q4 q5 q6 r0 r1 r2 r3 r4 r5 r6 ⊢
    have HF0 : (Blk W pt #[v0, v1, v2, v3, v4, v5, v6] 58 ∧ Blk W pa #[.int .i64 x] 3 ∧ Blk W pe #[.int .i64 y] 36) := by rw [← hW]; exact ⟨ht', ha', he'⟩
    have HF := Lib.hid HF0
    have HBW : Below w.heap.size w W := by rw [← hW]; exact (Below.refl _ _).alloc (Nat.le_refl _) _
    have HB := Lib.hid HBW
    clear HBW
    clear HF0
    obtain ⟨g, hg⟩ : ∃ g, w.heap.size = g := ⟨_, rfl⟩
    rw [hg] at f0 f1 m1 m2 m3 ⊢
    clear hta ht ha he ht' ha' he' F hW hg lt la le h7
    simp at f0 f1 a0 e0
    go_region
    exact ⟨rfl, rfl, fun B b1 b2 b3 b4 => (HB.out.mono b4).trans (caught_below W b1 b2 b3 (Nat.le_trans b4 HB.out.size)), caught_end HF.out n1 n2 n3⟩
  · rintro e a w' ⟨rfl, h0, hB, h1, h2, h3⟩
    cases c₀
    simp_all [bodyPostS, results, Tryd.results42]
end Go.Proofs.YtdfacbcenogplaaDoor

namespace Go.Proofs.YtdfacbcenogplaaDoor
open Go.RowKit Go.Lib

/-- What the whole of a pattern is. -/
def whF (s : ByteArray) (b : Bool) : Rs Tr := match chD s b 40 0 with
  | .bad k e => .bad k e
  | .ok t k => if k = s.size then if 200 < t.wt then .bad 0 91 else .ok t k else .bad k 90
theorem parse_wh (s : ByteArray) (b : Bool) (h : s.size ≤ 1024) : rxParse s b = match whF s b with | .bad k e => (trZ, k, e) | .ok t _ => (t, 0, 0) := by
  rw [rxParse, if_neg (by omega), whF]
  cases chD s b 40 0 with
  | bad k e => rfl
  | ok t k =>
    dsimp only
    split
    · split <;> rfl
    · rfl
set_option maxRecDepth 100000 in
set_option maxHeartbeats 1500000 in
theorem rx_whole {W : World} {pb : Nat} {s : ByteArray} {b : Bool} (h : Prs W pb s b 0 0) (hs : s.size ≤ 1024) (hE : Env W pb) :
    Calls Tryd.prog 43 #[pbP pb] W (RxOut (gTr W.heap.size) pb s b 0 W (whF s b)) := by
  have hlt := Blk.lt h
  have F0 := Blk.new W zero7 58
  have S0 := (Stp.refl h).alloc (.cells zero7 58)
  have hE0 := hE.step S0 hlt
  have hsz0 : (W.alloc (.cells zero7 58)).heap.size = W.heap.size + 1 := by simp
  obtain ⟨W0, hW0⟩ : ∃ W0, W.alloc (.cells zero7 58) = W0 := ⟨_, rfl⟩
  rw [hW0] at F0 S0 hE0 hsz0
  have hlt0 : pb < W0.heap.size := by omega
  have hsA : W.heap.size < W0.heap.size := by omega
  have hneB : pb ≠ W.heap.size := by omega
  clear hsz0
  have CW := Lib.hid (fun a W => rx_wrong pb a W)
  have CB := Lib.hid (fun W => rx_big pb 0 W)
  have CC := rx_choice (rx_group s b 40) (Nat.zero_add 40) S0.prs (Nat.zero_le _) hs hE0
  have HS0 := Lib.hid S0
  have HKF := Lib.hid (fun (w : World) (j m : Nat) (hS : Stp pb s b j m W0 w) => show Blk w W.heap.size zero7 58 from ⟨(hS.off.block _ F0.lt (Ne.symm hneB) (Ne.symm hneB)).trans F0.row⟩)
  have CI := Lib.hid (fun (x : Tr) (k : Nat) (hh : chD s b 40 0 = .ok x k) => chD_in (Nat.zero_le _) hh)
  rw [whF]
  clear h hE hE0 S0 F0
  cases hQ : chD s b 40 0 with
  | bad ka er =>
    rw [hQ] at CC
    have CC := Lib.hid CC
    clear hQ CI
    go_enter Tryd.func43, Tryd.ntmps43
    go_wp2_with fail
    refine CC.out.mono ?_
    rintro e w2 ⟨rfl, hO⟩
    have HO := Lib.hid hO
    clear hO CC hW0
    go_wp2_with fail
    exact ⟨rfl, rfl, HS0.out.off.trans HO.out⟩
  | ok t k =>
    have hk := CI.out t k hQ
    rw [hQ] at CC
    have CC := Lib.hid CC
    obtain ⟨p, hp⟩ : ∃ p, ((k : Int) == (s.size : Int)) = p := ⟨_, rfl⟩
    have CE := Lib.hid (fun w (hS : Stp pb s b k 0 W0 w) => rx_ended hS.prs p hp)
    dsimp only
    clear hQ CI
    cases p with
    | false =>
      have hne : ¬ k = s.size := by rw [beq_eq_false_iff_ne] at hp; omega
      rw [if_neg hne]
      clear hne hp
      go_enter Tryd.func43, Tryd.ntmps43
      go_wp2_with fail
      refine CC.out.mono ?_
      rintro e w2 ⟨vv, rfl, ⟨vs, rfl, ht⟩, hS2⟩
      obtain ⟨kind, code, neg, A3, n3, c3, lo, hi', A2, n2, c2, rfl⟩ := ht.form
      have S2 := hS2.alloc (.cells #[.int .i64 kind, .int .i64 code, .bool neg, .slice A3 n3 c3, .int .i64 lo, .int .i64 hi', .slice A2 n2 c2] 58)
      have HS2 := Lib.hid S2
      clear hS2 S2 ht CC hW0
      go_wp2_with fail
      refine (CE.out _ HS2.out).mono ?_
      rintro e w3 ⟨rfl, hS⟩
      have S3 := HS2.out.trans hS
      have HS3 := Lib.hid S3
      obtain ⟨_, _, q2, _, _, _⟩ := S3.prs.four
      clear hS S3 CE
      go_wp2_with fail
      refine (CW.out _ _).mono ?_
      rintro e w4 ⟨rfl, rfl⟩
      go_wp2_with fail
      exact ⟨rfl, rfl, HS0.out.off.trans HS3.out.off⟩
    | true =>
      have he : k = s.size := by
        have := eq_of_beq hp
        omega
      rw [if_pos he]
      clear he hp
      have HWT := Lib.hid (fun (w : World) (vs : Array Value) (P : Nat → Prop) (h : TrV w P t vs) => rx_weight h)
      obtain ⟨wt, hwt⟩ : ∃ wt, t.wt = wt := ⟨_, rfl⟩
      have HWT := Lib.hid (fun (w : World) (vs : Array Value) (P : Nat → Prop) (h : TrV w P t vs) => hwt ▸ HWT.out w vs P h)
      rw [hwt]
      clear hwt
      by_cases hbig : 200 < wt
      · rw [if_pos hbig]
        go_enter Tryd.func43, Tryd.ntmps43
        go_wp2_with fail
        refine CC.out.mono ?_
        rintro e w2 ⟨vv, rfl, ⟨vs, rfl, ht⟩, hS2⟩
        obtain ⟨kind, code, neg, A3, n3, c3, lo, hi', A2, n2, c2, rfl⟩ := ht.form
        have hs2 := hS2.off.size
        have S2 := hS2.alloc (.cells #[.int .i64 kind, .int .i64 code, .bool neg, .slice A3 n3 c3, .int .i64 lo, .int .i64 hi', .slice A2 n2 c2] 58)
        have FT := Blk.new w2 #[.int .i64 kind, .int .i64 code, .bool neg, .slice A3 n3 c3, .int .i64 lo, .int .i64 hi', .slice A2 n2 c2] 58
        have hbT := (Below.refl w2.heap.size w2).alloc (Nat.le_refl _) (.cells #[.int .i64 kind, .int .i64 code, .bool neg, .slice A3 n3 c3, .int .i64 lo, .int .i64 hi', .slice A2 n2 c2] 58)
        have HS2 := Lib.hid S2
        have HT := Lib.hid (ht.kept (P' := fun c => W0.heap.size ≤ c ∧ c < w2.heap.size) (w' := w2.alloc (.cells #[.int .i64 kind, .int .i64 code, .bool neg, .slice A3 n3 c3, .int .i64 lo, .int .i64 hi', .slice A2 n2 c2] 58)) (fun g hg hp => ⟨⟨hp, hg⟩, hbT.block g hg⟩))
        have HFT := Lib.hid FT
        clear hS2 S2 ht CC hW0 FT hbT
        go_wp2_with fail
        refine (CE.out _ HS2.out).mono ?_
        rintro e w3 ⟨rfl, hS⟩
        have hS : Stp pb s b k 0 (w2.alloc (.cells #[.int .i64 kind, .int .i64 code, .bool neg, .slice A3 n3 c3, .int .i64 lo, .int .i64 hi', .slice A2 n2 c2] 58)) w3 := hS
        have S3 := HS2.out.trans hS
        have pbne : pb < w2.heap.size := by omega
        have FT3 : Blk w3 w2.heap.size #[.int .i64 kind, .int .i64 code, .bool neg, .slice A3 n3 c3, .int .i64 lo, .int .i64 hi', .slice A2 n2 c2] 58 := ⟨(hS.off.block _ HFT.out.lt (by omega) (by omega)).trans HFT.out.row⟩
        have HT3 := HT.out.kept (w' := w3) (P' := fun c => W0.heap.size ≤ c ∧ c < w3.heap.size) (fun g hg hp => ⟨⟨hp.1, Nat.lt_of_lt_of_le hg hS.off.size⟩, hS.off.block g hg (by omega) (by omega)⟩)
        have CWT := Lib.hid (HWT.out _ _ _ HT3)
        have HS3 := Lib.hid S3
        obtain ⟨⟨t0, t1, t2, t3, t4, t5, t6⟩, _⟩ := FT3.seven
        clear hS S3 FT3 HT3 HT HFT HWT CE pbne hs2
        go_wp2_with fail
        refine CWT.out.mono ?_
        rintro e w4 ⟨rfl, hb4⟩
        clear t0 t1 t2 t3 t4 t5 t6
        have HS4 := Lib.hid (HS3.out.below hb4)
        have hq : decide (200 < wt) = true := by
          rw [decide_eq_true_iff]
          exact hbig
        clear hb4
        go_wp2_with fail
        refine (CB.out _).mono ?_
        rintro e w5 ⟨rfl, rfl⟩
        go_wp2_with fail
        exact ⟨rfl, rfl, HS0.out.off.trans HS4.out.off⟩
      · rw [if_neg hbig]
        go_enter Tryd.func43, Tryd.ntmps43
        go_wp2_with fail
        refine CC.out.mono ?_
        rintro e w2 ⟨vv, rfl, ⟨vs, rfl, ht⟩, hS2⟩
        obtain ⟨kind, code, neg, A3, n3, c3, lo, hi', A2, n2, c2, rfl⟩ := ht.form
        have hs2 := hS2.off.size
        have S2 := hS2.alloc (.cells #[.int .i64 kind, .int .i64 code, .bool neg, .slice A3 n3 c3, .int .i64 lo, .int .i64 hi', .slice A2 n2 c2] 58)
        have FT := Blk.new w2 #[.int .i64 kind, .int .i64 code, .bool neg, .slice A3 n3 c3, .int .i64 lo, .int .i64 hi', .slice A2 n2 c2] 58
        have hbT := (Below.refl w2.heap.size w2).alloc (Nat.le_refl _) (.cells #[.int .i64 kind, .int .i64 code, .bool neg, .slice A3 n3 c3, .int .i64 lo, .int .i64 hi', .slice A2 n2 c2] 58)
        have HS2 := Lib.hid S2
        have HT := Lib.hid (ht.kept (P' := fun c => W0.heap.size ≤ c ∧ c < w2.heap.size) (w' := w2.alloc (.cells #[.int .i64 kind, .int .i64 code, .bool neg, .slice A3 n3 c3, .int .i64 lo, .int .i64 hi', .slice A2 n2 c2] 58)) (fun g hg hp => ⟨⟨hp, hg⟩, hbT.block g hg⟩))
        have HFT := Lib.hid FT
        clear hS2 S2 ht CC hW0 FT hbT
        go_wp2_with fail
        refine (CE.out _ HS2.out).mono ?_
        rintro e w3 ⟨rfl, hS⟩
        have hS : Stp pb s b k 0 (w2.alloc (.cells #[.int .i64 kind, .int .i64 code, .bool neg, .slice A3 n3 c3, .int .i64 lo, .int .i64 hi', .slice A2 n2 c2] 58)) w3 := hS
        have S3 := HS2.out.trans hS
        have pbne : pb < w2.heap.size := by omega
        have FT3 : Blk w3 w2.heap.size #[.int .i64 kind, .int .i64 code, .bool neg, .slice A3 n3 c3, .int .i64 lo, .int .i64 hi', .slice A2 n2 c2] 58 := ⟨(hS.off.block _ HFT.out.lt (by omega) (by omega)).trans HFT.out.row⟩
        have HT3 := HT.out.kept (w' := w3) (P' := fun c => W0.heap.size ≤ c ∧ c < w3.heap.size) (fun g hg hp => ⟨⟨hp.1, Nat.lt_of_lt_of_le hg hS.off.size⟩, hS.off.block g hg (by omega) (by omega)⟩)
        have CWT := Lib.hid (HWT.out _ _ _ HT3)
        have HS3 := Lib.hid S3
        have HT3h := Lib.hid HT3
        have HFT3 := Lib.hid FT3
        obtain ⟨⟨t0, t1, t2, t3, t4, t5, t6⟩, _⟩ := FT3.seven
        clear hS S3 FT3 HT3 HT HFT HWT CE pbne hs2
        go_wp2_with fail
        refine CWT.out.mono ?_
        rintro e w4 ⟨rfl, hb4⟩
        clear t0 t1 t2 t3 t4 t5 t6
        have S4 := HS3.out.below hb4
        have F4 := HKF.out _ _ _ S4
        have FT4 := HFT3.out.below hb4 HFT3.out.lt
        have HT4 := HT3h.out.kept (w' := w4) (P' := fun c => W0.heap.size ≤ c) (fun g hg hp => ⟨hp.1, hb4.block g hg⟩)
        have FIN := Lib.hid (node_put (HS0.out.trans S4) F4 HT4 hsA)
        obtain ⟨z7, _⟩ := rx_end7 (.int .i64 kind) (.int .i64 code) (.bool neg) (.slice A3 n3 c3) (.int .i64 lo) (.int .i64 hi') (.slice A2 n2 c2) F4
        obtain ⟨⟨y0, y1, y2, y3, y4, y5, y6⟩, _⟩ := z7.seven
        obtain ⟨⟨k0, k1, k2, k3, k4, k5, k6⟩, f0, f1, f2, f3', f4, f5, f6⟩ := F4.seven
        obtain ⟨⟨t0, t1, t2, t3, t4, t5, t6⟩, _⟩ := FT4.seven
        unfold put7 at y0 y1 y2 y3 y4 y5 y6
        clear F4 z7 S4 FT4 HT4 HKF CWT hb4
        have hq : decide (200 < wt) = false := by
          rw [decide_eq_false_iff_not]
          omega
        dsimp only
        iterate 7 (first | go_values | go_skip | go_guarded | go_step | go_upon | go_back)
        clear hq hbig
        go_wp2_with fail
        exact bodyPost_ret (v := .agg #[.int .i64 kind, .int .i64 code, .bool neg, .slice A3 n3 c3, .int .i64 lo, .int .i64 hi', .slice A2 n2 c2]) (by simp [results, Tryd.results43, go_sem, y0, y1, y2, y3, y4, y5, y6]) rfl FIN.out
end Go.Proofs.YtdfacbcenogplaaDoor

namespace Go.Proofs.YtdfacbcenogplaaDoor
open Go.RowKit Go.Lib

/-- What Parse leans on. -/
structure REnv (W : World) : Prop where
  tabs : Utf8Tabs 4 5 W
  mx : ∃ m, W.cell? ⟨0, 0, none⟩ = some (.int .i64 m)
theorem REnv.far {W : World} (h : REnv W) : 4 < W.heap.size ∧ 5 < W.heap.size ∧ 0 < W.heap.size := by
  obtain ⟨m, hm⟩ := h.mx
  exact ⟨World.block_lt_of_cell? W _ (h.tabs.1 0 (by omega)), World.block_lt_of_cell? W _ (h.tabs.2 0 (by omega)).1, World.block_lt_of_cell? W _ hm⟩
theorem REnv.env {W X : World} (h : REnv W) (hb : Below W.heap.size W X) {pb : Nat} (hp : W.heap.size ≤ pb) : Env X pb := by
  obtain ⟨m, hm⟩ := h.mx
  obtain ⟨f1, f2, f3⟩ := h.far
  exact ⟨tabs_sub h.tabs hb f1 f2, ⟨m, (hb.cell (p := ⟨0, 0, none⟩) f3).trans hm⟩, by omega, by omega, by omega⟩
theorem REnv.kept {W X : World} (h : REnv W) (hb : Below W.heap.size W X) : REnv X := by
  obtain ⟨m, hm⟩ := h.mx
  obtain ⟨f1, f2, f3⟩ := h.far
  exact ⟨tabs_sub h.tabs hb f1 f2, ⟨m, (hb.cell (p := ⟨0, 0, none⟩) f3).trans hm⟩⟩
/-- What Parse hands back. -/
def PrsOut (W : World) (r : Tr × Nat × Int) (e : Ending) (w' : World) : Prop :=
  ∃ vs, e = .returned (.tuple #[.agg vs, .int .i64 (r.2.1 : Int), .int .i64 r.2.2]) ∧ TrV w' (fun c => W.heap.size ≤ c) r.1 vs ∧ Below W.heap.size W w'
abbrev psW (W : World) (s : ByteArray) (b : Bool) : World := (((W.alloc (.cells zero7 58)).alloc (.cells #[.int .i64 0] 3)).alloc (.cells #[.int .i64 0] 36)).alloc (.cells #[.string s, .bool b, .int .i64 0, .int .i64 0] 86)
set_option maxRecDepth 100000 in
set_option maxHeartbeats 1500000 in
theorem rx_parse {s : ByteArray} (hs : s.size ≤ 1024) (b : Bool) {W : World} (hE : REnv W) :
    Calls Tryd.prog 24 #[.string s, .bool b] W (PrsOut W (rxParse s b)) := by
  have hmf : ∀ (fn : Fn) (first cap : Array Value) (w : World), (Instr.makeFunc fn first cap).run Tryd.prog w = .ok (.func fn first cap) w := fun _ _ _ _ => rfl
  have hB : Below W.heap.size W (psW W s b) := ((((Below.refl W.heap.size W).alloc (Nat.le_refl _) _).alloc (by simp) _).alloc (by simp; omega) _).alloc (by simp; omega) _
  have P4 : Prs (psW W s b) (W.heap.size + 3) s b 0 0 := by
    have := Blk.new (((W.alloc (.cells zero7 58)).alloc (.cells #[.int .i64 0] 3)).alloc (.cells #[.int .i64 0] 36)) #[.string s, .bool b, .int .i64 0, .int .i64 0] 86
    simpa [Prs] using this
  have bt : Blk (psW W s b) W.heap.size zero7 58 := ((Blk.new W zero7 58).alloc _).alloc _ |>.alloc _
  have ba : Blk (psW W s b) (W.heap.size + 1) #[.int .i64 0] 3 := by
    have := ((Blk.new (W.alloc (.cells zero7 58)) #[.int .i64 0] 3).alloc (.cells #[.int .i64 0] 36)).alloc (.cells #[.string s, .bool b, .int .i64 0, .int .i64 0] 86)
    simpa using this
  have be : Blk (psW W s b) (W.heap.size + 2) #[.int .i64 0] 36 := by
    have := (Blk.new ((W.alloc (.cells zero7 58)).alloc (.cells #[.int .i64 0] 3)) #[.int .i64 0] 36).alloc (.cells #[.string s, .bool b, .int .i64 0, .int .i64 0] 86)
    simpa using this
  have hz : (psW W s b).heap.size = W.heap.size + 4 := by simp
  have CWh := rx_whole P4 hs (hE.env hB (by omega))
  have hlen : decide (1024 < (s.size : Int)) = false := by rw [decide_eq_false_iff_not]; omega
  rw [parse_wh s b hs]
  cases hQ : whF s b with
  | bad k er =>
    rw [hQ] at CWh
    have CWh := Lib.hid CWh
    have HB := Lib.hid hB
    have HBT := Lib.hid bt
    have HBA := Lib.hid ba
    have HBE := Lib.hid be
    have HZ := Lib.hid hz
    clear hQ hE hB P4 bt ba be hz
    go_enter_defers Tryd.func24, Tryd.ntmps24
    go_wp2_with fail
    refine CWh.out.mono ?_
    rintro e w2 ⟨rfl, hO⟩
    have hz4 := HZ.out
    have ht := HBT.out.off2 hO (by omega) (by omega)
    have ha := HBA.out.off2 hO (by omega) (by omega)
    have he := HBE.out.off2 hO (by omega) (by omega)
    have hb2 := HB.out.trans (hO.below (by omega) (by omega) (by omega))
    refine leaves_cons (f := 42) (args := #[.pointer (some ⟨W.heap.size, 0, none⟩), .pointer (some ⟨W.heap.size + 1, 0, none⟩), .pointer (some ⟨W.heap.size + 2, 0, none⟩)]) (by simp) (by simp [go_sem]) ?_
    refine (rx_caught W.heap.size (W.heap.size + 1) (W.heap.size + 2) (k : Int) er 0 0 [] w2 zero7 ht rfl ha he (by omega) (by omega) (by omega)).mono ?_
    rintro e u' w3 ⟨rfl, rfl, hBB, bt, ba, be⟩
    have hb3 := hb2.trans (hBB W.heap.size (Nat.le_refl _) (by omega) (by omega) hb2.size)
    obtain ⟨⟨t0, t1, t2, t3, t4, t5, t6⟩, _⟩ := bt.seven
    have a0 := ba.cell 0
    have e0 := be.cell 0
    simp only [List.getElem?_toArray, List.getElem?_cons_zero] at a0 e0
    show Leaves _ _ _ _ [] .returning w3
    exact ⟨.tuple #[.agg zero7, .int .i64 (k : Int), .int .i64 er], by simp [results, Tryd.results24, go_sem, t0, t1, t2, t3, t4, t5, t6, a0, e0], zero7, rfl, TrV.leaf _ _ 0 0 false 0 0, hb3⟩
  | ok t k =>
    rw [hQ] at CWh
    have CWh := Lib.hid CWh
    have HB := Lib.hid hB
    have HBT := Lib.hid bt
    have HBA := Lib.hid ba
    have HBE := Lib.hid be
    have HZ := Lib.hid hz
    clear hQ hE hB P4 bt ba be hz
    go_enter_defers Tryd.func24, Tryd.ntmps24
    go_wp2_with fail
    refine CWh.out.mono ?_
    rintro e w2 ⟨vv, rfl, ⟨vs, rfl, hT⟩, hS⟩
    obtain ⟨kind, code, neg, A3, n3', c3, lo, hi', A2, n2', c2', rfl⟩ := hT.form
    have hz4 := HZ.out
    have hO := hS.off
    have hs2 := hO.size
    have ht := HBT.out.off2 hO (by omega) (by omega)
    have ha := HBA.out.off2 hO (by omega) (by omega)
    have he := HBE.out.off2 hO (by omega) (by omega)
    have hb2 := HB.out.trans (hO.below (by omega) (by omega) (by omega))
    obtain ⟨⟨x0, x1, x2, x3, x4, x5, x6⟩, f0, f1, f2, f3, f4, f5, f6⟩ := ht.seven
    have a0 := ha.cell 0
    have e0 := he.cell 0
    have g0 := ha.fro 0
    have g1 := he.fro 0
    simp only [List.getElem?_toArray, List.getElem?_cons_zero] at a0 e0
    have n1 : W.heap.size ≠ W.heap.size + 1 := by omega
    have n2 : W.heap.size ≠ W.heap.size + 2 := by omega
    have n3 : W.heap.size + 1 ≠ W.heap.size + 2 := by omega
    obtain ⟨z7, o7⟩ := rx_end7 (.int .i64 kind) (.int .i64 code) (.bool neg) (.slice A3 n3' c3) (.int .i64 lo) (.int .i64 hi') (.slice A2 n2' c2') ht
    have k1 := ha.off2 o7 n1.symm n1.symm
    have k2 := he.off2 o7 n2.symm n2.symm
    have c1 := Blk.set (j := 0) (u := .int .i64 0) k1
    have c0 := z7.other (j := 0) (u := .int .i64 0) n1
    have c2 := k2.other (j := 0) (u := .int .i64 0) n3.symm
    have d2 := Blk.set (j := 0) (u := .int .i64 0) c2
    have d0 := c0.other (j := 0) (u := .int .i64 0) n2
    have d1 := c1.other (j := 0) (u := .int .i64 0) n3
    have o1 := Off2.setCell (put7 w2 W.heap.size (.int .i64 kind) (.int .i64 code) (.bool neg) (.slice A3 n3' c3) (.int .i64 lo) (.int .i64 hi') (.slice A2 n2' c2')) (W.heap.size + 1) (W.heap.size + 1) 0 (.int .i64 0)
    have o2 := Off2.setCell ((put7 w2 W.heap.size (.int .i64 kind) (.int .i64 code) (.bool neg) (.slice A3 n3' c3) (.int .i64 lo) (.int .i64 hi') (.slice A2 n2' c2')).setCell ⟨W.heap.size + 1, 0, none⟩ (.int .i64 0)) (W.heap.size + 2) (W.heap.size + 2) 0 (.int .i64 0)
    have FIN : TrV (((put7 w2 W.heap.size (.int .i64 kind) (.int .i64 code) (.bool neg) (.slice A3 n3' c3) (.int .i64 lo) (.int .i64 hi') (.slice A2 n2' c2')).setCell ⟨W.heap.size + 1, 0, none⟩ (.int .i64 0)).setCell ⟨W.heap.size + 2, 0, none⟩ (.int .i64 0)) (fun c => W.heap.size ≤ c) t #[.int .i64 kind, .int .i64 code, .bool neg, .slice A3 n3' c3, .int .i64 lo, .int .i64 hi', .slice A2 n2' c2'] := by
      refine hT.kept (fun g hg hp => ⟨?_, ?_⟩)
      · have hp : (psW W s b).heap.size ≤ g := hp
        show W.heap.size ≤ g
        omega
      · have hp : (psW W s b).heap.size ≤ g := hp
        have q1 := o7.block g hg (by omega) (by omega)
        have q2 := o1.block g (Nat.lt_of_lt_of_le hg o7.size) (by omega) (by omega)
        have q3 := o2.block g (Nat.lt_of_lt_of_le (Nat.lt_of_lt_of_le hg o7.size) o1.size) (by omega) (by omega)
        exact q3.trans (q2.trans q1)
    have hb3 : Below W.heap.size W (((put7 w2 W.heap.size (.int .i64 kind) (.int .i64 code) (.bool neg) (.slice A3 n3' c3) (.int .i64 lo) (.int .i64 hi') (.slice A2 n2' c2')).setCell ⟨W.heap.size + 1, 0, none⟩ (.int .i64 0)).setCell ⟨W.heap.size + 2, 0, none⟩ (.int .i64 0)) :=
      ((hb2.trans (o7.below (Nat.le_refl _) (Nat.le_refl _) hb2.size)).trans (o1.below (by omega) (by omega) (Nat.le_trans hb2.size o7.size))).trans (o2.below (by omega) (by omega) (Nat.le_trans (Nat.le_trans hb2.size o7.size) o1.size))
    obtain ⟨⟨y0, y1, y2, y3, y4, y5, y6⟩, _⟩ := d0.seven
    have y7 := d1.cell 0
    have y8 := d2.cell 0
    simp at y7 y8
    have HFIN := Lib.hid (And.intro FIN hb3)
    have HY := Lib.hid (And.intro (And.intro y0 (And.intro y1 (And.intro y2 (And.intro y3 (And.intro y4 (And.intro y5 y6)))))) (And.intro y7 y8))
    clear z7 o7 k1 k2 c1 c0 c2 d2 d0 d1 o1 o2 FIN hb3 ht ha he hb2 hO hS hT HBT HBA HBE HB y0 y1 y2 y3 y4 y5 y6 y7 y8 CWh
    go_wp2_with fail
    refine leaves_cons (f := 42) (args := #[.pointer (some ⟨W.heap.size, 0, none⟩), .pointer (some ⟨W.heap.size + 1, 0, none⟩), .pointer (some ⟨W.heap.size + 2, 0, none⟩)]) (by simp) (by simp [go_sem]) ?_
    refine (rx_idle ⟨W.heap.size, 0, none⟩ ⟨W.heap.size + 1, 0, none⟩ ⟨W.heap.size + 2, 0, none⟩ _).mono ?_
    rintro e u' w3 ⟨rfl, rfl, hw3⟩
    have hw4 : w3 = ((put7 w2 W.heap.size (.int .i64 kind) (.int .i64 code) (.bool neg) (.slice A3 n3' c3) (.int .i64 lo) (.int .i64 hi') (.slice A2 n2' c2')).setCell ⟨W.heap.size + 1, 0, none⟩ (.int .i64 0)).setCell ⟨W.heap.size + 2, 0, none⟩ (.int .i64 0) := hw3
    clear hw3
    obtain ⟨⟨y0, y1, y2, y3, y4, y5, y6⟩, y7, y8⟩ := HY.out
    rw [← hw4] at y0 y1 y2 y3 y4 y5 y6 y7 y8
    show Leaves _ _ _ _ [] .returning w3
    exact ⟨.tuple #[.agg #[.int .i64 kind, .int .i64 code, .bool neg, .slice A3 n3' c3, .int .i64 lo, .int .i64 hi', .slice A2 n2' c2'], .int .i64 0, .int .i64 0], by simp [results, Tryd.results24, go_sem, y0, y1, y2, y3, y4, y5, y6, y7, y8], _, rfl, hw4 ▸ HFIN.out.1, hw4 ▸ HFIN.out.2⟩
end Go.Proofs.YtdfacbcenogplaaDoor

namespace Go.Proofs.YtdfacbcenogplaaDoor
open Go.RowKit Go.Lib Go.Maps

/-- A string, as a search sees it. -/
def envOf (s : ByteArray) (fold bytes : Bool) : NEnv := envS ⟨0, 0, 0, s, fold, bytes, 0, 0, [], 0, false, 0⟩
/-- A program in memory that was made ready of a tree. -/
structure Ready (w : World) (Pb : Nat) (t : Tr) (fold bytes : Bool) : Prop where
  mem : ∃ B cb ccap, B ≤ w.heap.size ∧ PrgIn w B Pb fold bytes cb ccap ((t.ownT (chLow fold bytes)).laid 0 [insDone]).2 ((t.ownT (chLow fold bytes)).laid 0 [insDone]).1
  shape : t.shape 1024 = true
  weight : t.wt ≤ 200
theorem Ready.below {w w' : World} {Pb : Nat} {t : Tr} {fold bytes : Bool} (h : Ready w Pb t fold bytes) (hb : Below w.heap.size w w') : Ready w' Pb t fold bytes := by
  obtain ⟨B, cb, ccap, hB, hP⟩ := h.mem
  exact ⟨⟨B, cb, ccap, Nat.le_trans hB hb.size, hP.below (hb.mono hB)⟩, h.shape, h.weight⟩
theorem InsIn.more {w : World} {B B' g o : Nat} {x : Ins} (h : InsIn w B g o x) (hB : B ≤ B') : InsIn w B' g o x := by
  obtain ⟨sv, wa, wc, h0, h1, h2, h3, h4, h5, h6, h7⟩ := h
  refine ⟨sv, wa, wc, h0, h1, h2, h3, h4, h5.kept fun b _ hb => ⟨Nat.lt_of_lt_of_le hb hB, rfl⟩, h6, fun j m hj => ?_⟩
  obtain ⟨q, e, hq, hc⟩ := h7 j m hj
  exact ⟨q, e, Nat.lt_of_lt_of_le hq hB, hc⟩
theorem PrgIn.more {w : World} {B B' P : Nat} {fold bytes : Bool} {cb ccap : Nat} {C : List Ins} {first : Nat} (h : PrgIn w B P fold bytes cb ccap C first) (hB : B ≤ B') : PrgIn w B' P fold bytes cb ccap C first :=
  ⟨h.blk, Nat.lt_of_lt_of_le h.low hB, Nat.lt_of_lt_of_le h.code.1 hB, fun i x hx => (h.code.2 i x hx).more hB⟩
theorem rise_NR {set : List (Int × Int)} (h : riseB 0 set = true) : NRise set := by
  obtain ⟨a, b⟩ := rise_pair set 0 h
  exact ⟨fun r hr => (a r hr).2.1, b⟩
/-- Find, of a program that was made ready. -/
theorem find_ready {W : World} {Pb : Nat} {t : Tr} {fold bytes : Bool} (h : Ready W Pb t fold bytes) (hT : Utf8Tabs 4 5 W) (hf1 : 4 < W.heap.size) (hf2 : 5 < W.heap.size) (s : ByteArray) (hs : s.size ≤ 1048576) {a : Nat} (ha : a ≤ s.size) :
    Calls Tryd.prog 13 #[.pointer (some ⟨Pb, 0, none⟩), .string s, .int .i64 (a : Int)] W fun e w' => ∃ (found : Bool) (st en : Nat), e = .returned (.tuple #[.int .i64 (st : Int), .int .i64 (en : Int), .bool found]) ∧ (found = false → st = 0 ∧ en = 0) ∧
      (∃ st' en', (found = true → st' = st ∧ en' = en) ∧ Told (NOn (envOf s fold bytes) (nplaceZ s a bytes)) ((t.ownT (chLow fold bytes)).leads (envOf s fold bytes)) found st' en') ∧ Below W.heap.size W w' := by
  obtain ⟨B, cb, ccap, hB, hP⟩ := h.mem
  have hfine := fine_own (chLow fold bytes) t 1024 h.shape
  have hlen := own_laid (chLow fold bytes) h.shape h.weight
  obtain ⟨w1, w2, w3, w4⟩ := laid_well (envOf s fold bytes) (t.ownT (chLow fold bytes)) hfine (ends_own (chLow fold bytes) (fun kind _ _ _ => kind ≠ 0) (fun kind _ _ _ h1 _ _ => by omega) t 1024 h.shape)
  have hNR : AllFrom (fun x => NRise x.set) 0 ((t.ownT (chLow fold bytes)).laid 0 [insDone]).2 :=
    Tr.keeps (Q := fun x => NRise x.set) (fun _ => ⟨fun _ h => (nomatch h), .nil⟩) _ (ends_own (chLow fold bytes) (fun kind code neg set => ∀ to', NRise (⟨kind, code, neg, set, [to']⟩ : Ins).set) (fun _ _ _ _ _ _ h3 _ => rise_NR h3) t 1024 h.shape) 0 [insDone] (fun i x _ hx => by
      cases i with
      | zero =>
        obtain rfl : insDone = x := by simpa using hx
        exact ⟨fun _ h => (nomatch h), .nil⟩
      | succ i => simp at hx)
  have := progFind_any ⟨W.heap.size, W.heap.size, Pb, s, fold, bytes, cb, ccap, ((t.ownT (chLow fold bytes)).laid 0 [insDone]).2, ((t.ownT (chLow fold bytes)).laid 0 [insDone]).1, false, (((t.ownT (chLow fold bytes)).laid 0 [insDone]).2.length + 63) / 64⟩
    ⟨w1, w4, by show ((t.ownT (chLow fold bytes)).laid 0 [insDone]).2.length ≤ 100000; omega, rfl, hs⟩ rfl rfl rfl (hP.more hB) w3 w2 (fits_any _ fun i x hx => hNR i x (Nat.zero_le _) hx) (fun W' hb => tabs_sub hT hb hf1 hf2) ha
  refine this.mono ?_
  rintro e w' ⟨found, st, en, rfl, h1, h2, hb⟩
  refine ⟨found, st, en, rfl, fun q => ⟨(h2 q).1, (h2 q).2.1⟩, ?_, hb⟩
  cases found with
  | true => exact ⟨st, en, fun _ => ⟨rfl, rfl⟩, (h1 rfl).told hfine⟩
  | false =>
    obtain ⟨_, _, st', en', hbst⟩ := h2 rfl
    exact ⟨st', en', fun q => (nomatch q), hbst.told hfine⟩
/-- From no place. -/
theorem find_out (P : Nat) (s : ByteArray) (a : Int) (h : a < 0 ∨ (s.size : Int) < a) (W : World) :
    Calls Tryd.prog 13 #[.pointer (some ⟨P, 0, none⟩), .string s, .int .i64 a] W fun e w' => e = .returned (.tuple #[.int .i64 0, .int .i64 0, .bool false]) ∧ W = w' := progFind_out P s a h W
set_option maxRecDepth 100000 in
set_option maxHeartbeats 2000000 in
/-- A pattern's program; nil, if it has none. -/
theorem ready_any {fold bytes : Bool} (HO : OwnAny fold bytes) {s : ByteArray} (hs : s.size ≤ 1024) {W : World} (hE : REnv W) :
    Calls Tryd.prog 12 #[.string s, .agg #[.bool fold, .bool bytes]] W fun e w' => Below W.heap.size W w' ∧ ((e = .returned (.pointer none) ∧ ∃ t p er, rxParse s bytes = (t, p, er) ∧ er ≠ 0) ∨ ∃ t Pb, e = .returned (.pointer (some ⟨Pb, 0, none⟩)) ∧ rxParse s bytes = (t, 0, 0) ∧ Ready w' Pb t fold bytes) := by
  have b1 := (Below.refl W.heap.size W).alloc (Nat.le_refl _) (.cells #[.bool fold, .bool bytes] 28)
  have Y1 := Blk.new W #[.bool fold, .bool bytes] 28
  obtain ⟨W1, hW1⟩ : ∃ W1, W.alloc (.cells #[.bool fold, .bool bytes] 28) = W1 := ⟨_, rfl⟩
  rw [hW1] at b1 Y1
  have CP := Lib.hid (rx_parse hs bytes (hE.kept b1))
  have HB1 := Lib.hid (And.intro b1 Y1)
  have y1 := Y1.cell 1
  simp only [List.getElem?_toArray, List.getElem?_cons_zero, List.getElem?_cons_succ] at y1
  obtain ⟨⟨t, p, er⟩, hp⟩ : ∃ r, rxParse s bytes = r := ⟨_, rfl⟩
  rw [hp] at CP ⊢
  have HP := Lib.hid hp
  clear b1 Y1 hE hp
  go_enter Tryd.func12, Tryd.ntmps12
  go_wp2_with fail
  clear hW1
  refine CP.out.mono ?_
  rintro e W2 ⟨vs, rfl, hT, hb2⟩
  have hz := HB1.out.1.size
  have B2 := HB1.out.1.trans (hb2.mono hz)
  have Y2 := HB1.out.2.below hb2 HB1.out.2.lt
  have y0 := Y2.cell 0
  have y2 := Y2.cell 1
  simp only [List.getElem?_toArray, List.getElem?_cons_zero, List.getElem?_cons_succ] at y0 y2
  simp only at hT ⊢
  by_cases he : er = 0
  · subst he
    have hp0 := HP.out
    obtain ⟨hsh, hwt⟩ := parse_shape hp0
    have hpz : p = 0 := by
      unfold rxParse at hp0
      split at hp0
      · simp at hp0
      split at hp0
      · rename_i k e hc
        simp only [Prod.mk.injEq] at hp0
        have := er_ch (er_grp s bytes 40) s bytes _ _ _ k e hc
        omega
      · split at hp0
        · split at hp0
          · simp at hp0
          · simp only [Prod.mk.injEq] at hp0; omega
        · simp at hp0
    subst hpz
    have CC := Lib.hid (fun (w : World) (hb : Below W2.heap.size W2 w) => nfa_compile HO (hT.kept (w' := w) (P' := fun g => W1.heap.size ≤ g) (fun g hg hq => ⟨hq, hb.block g hg⟩)) hsh hwt)
    have HS := Lib.hid (And.intro hsh hwt)
    obtain ⟨kind, code, neg, A3, n3, c3, lo, hi, A2, n2, c2, rfl⟩ := hT.form
    have b3 := (Below.refl W2.heap.size W2).alloc (Nat.le_refl _) (.cells #[.int .i64 kind, .int .i64 code, .bool neg, .slice A3 n3 c3, .int .i64 lo, .int .i64 hi, .slice A2 n2 c2] 58)
    have K3 := Blk.new W2 #[.int .i64 kind, .int .i64 code, .bool neg, .slice A3 n3 c3, .int .i64 lo, .int .i64 hi, .slice A2 n2 c2] 58
    have Y3 := Y2.alloc (.cells #[.int .i64 kind, .int .i64 code, .bool neg, .slice A3 n3 c3, .int .i64 lo, .int .i64 hi, .slice A2 n2 c2] 58)
    obtain ⟨X2, hX2⟩ : ∃ X2, W2.alloc (.cells #[.int .i64 kind, .int .i64 code, .bool neg, .slice A3 n3 c3, .int .i64 lo, .int .i64 hi, .slice A2 n2 c2] 58) = X2 := ⟨_, rfl⟩
    rw [hX2] at b3 K3 Y3
    obtain ⟨q0, q1, q2, q3, q4, q5, q6⟩ := K3.seven.1
    have v0 := Y3.cell 0
    have v1 := Y3.cell 1
    simp only [List.getElem?_toArray, List.getElem?_cons_zero, List.getElem?_cons_succ] at v0 v1
    have HB2 := Lib.hid (And.intro B2 b3)
    clear hT hb2 B2 Y2 hsh hwt hp0 hz b3 K3 Y3
    go_wp2_with fail
    clear hX2 q0 q1 q2 q3 q4 q5 q6 v0 v1 y0 y1 y2
    refine (CC.out _ HB2.out.2).mono ?_
    rintro e W3 ⟨Pb, cb, ccap, rfl, hPr, hb3, _⟩
    have HF := Lib.hid (show Below W.heap.size W W3 ∧ Ready W3 Pb t fold bytes from ⟨HB2.out.1.trans ((HB2.out.2.trans (hb3.mono HB2.out.2.size)).mono HB2.out.1.size), ⟨⟨_, cb, ccap, Nat.le_refl _, hPr⟩, HS.out.1, HS.out.2⟩⟩)
    clear hPr hb3
    go_wp2_with fail
    go_ret
    exact ⟨HF.out.1, .inr ⟨t, Pb, rfl, rfl, HF.out.2⟩⟩
  · have hne : (er != 0) = true := bne_iff_ne.2 he
    have hne2 : (er == 0) = false := by rw [beq_eq_false_iff_ne]; exact he
    obtain ⟨kind, code, neg, A3, n3, c3, lo, hi, A2, n2, c2, rfl⟩ := hT.form
    have b3 := (Below.refl W2.heap.size W2).alloc (Nat.le_refl _) (.cells #[.int .i64 kind, .int .i64 code, .bool neg, .slice A3 n3 c3, .int .i64 lo, .int .i64 hi, .slice A2 n2 c2] 58)
    have HB2 := Lib.hid (B2.trans (b3.mono B2.size))
    have HE := Lib.hid he
    clear hT hb2 B2 Y2 hz b3 he
    go_wp2_with fail
    go_ret
    exact ⟨HB2.out, .inl ⟨rfl, t, p, er, rfl, HE.out⟩⟩
end Go.Proofs.YtdfacbcenogplaaDoor

namespace Go.Proofs.YtdfacbcenogplaaDoor
open Go.Lib

/-- a|ab|(b|c)+ -/
def exT10 : Tr := trN 6 [trC 97, trN 5 [trC 97, trC 98], trR 1 (-1) (trN 6 [trC 98, trC 99])]
def exP10 : ByteArray := ⟨#[97, 124, 97, 98, 124, 40, 98, 124, 99, 41, 43]⟩
def exS10 : ByteArray := ⟨#[120, 97, 98, 99, 98]⟩
theorem ex10_parse : rxParse exP10 false = (exT10, 0, 0) := by kernel_rfl
theorem ex10_next : nextZ exS10 0 false = (120, 1) ∧ nextZ exS10 1 false = (97, 1) ∧ nextZ exS10 2 false = (98, 1) ∧ nextZ exS10 3 false = (99, 1) ∧ nextZ exS10 4 false = (98, 1) := by
  refine ⟨by kernel_rfl, by kernel_rfl, by kernel_rfl, by kernel_rfl, by kernel_rfl⟩
theorem ex10_own : exT10.ownT (chLow false false) = exT10 := by
  have e : chLow false false = fun x => x := rfl
  rw [e]
  unfold exT10 trN trC trR
  simp [Tr.ownT, Tr.ownsT]
theorem ex10_nxt (a : Nat) (b : Nat) : (envOf exS10 false false).nxt a = some b ↔ a < 5 ∧ b = a + 1 := by
  obtain ⟨n0, n1, n2, n3, n4⟩ := ex10_next
  unfold envOf envS
  simp only
  have hz : exS10.size = 5 := rfl
  rw [hz]
  by_cases q : a < 5
  · rw [if_pos q]
    have : (nextZ exS10 (a : Int) false).2 = 1 := by
      have h : a = 0 ∨ a = 1 ∨ a = 2 ∨ a = 3 ∨ a = 4 := by omega
      rcases h with rfl | rfl | rfl | rfl | rfl
      · exact congrArg Prod.snd n0
      · exact congrArg Prod.snd n1
      · exact congrArg Prod.snd n2
      · exact congrArg Prod.snd n3
      · exact congrArg Prod.snd n4
    rw [this]
    constructor
    · intro h; injection h with h; exact ⟨q, h.symm⟩
    · rintro ⟨_, rfl⟩; rfl
  · rw [if_neg q]
    constructor
    · intro h; cases h
    · rintro ⟨h, _⟩; exact absurd h q
/-- Which byte stands there. -/
def ex10_at (a : Nat) : Nat := if a = 0 then 120 else if a = 1 then 97 else if a = 2 then 98 else if a = 3 then 99 else 98
theorem ex10_chr (c a b : Nat) : (trC c).leads (envOf exS10 false false) a b ↔ a < 5 ∧ b = a + 1 ∧ ex10_at a = c := by
  unfold trC
  rw [Tr.leads, if_neg (by decide), if_neg (by decide), if_neg (by decide), if_neg (by decide), if_pos (.inl rfl), ex10_nxt]
  obtain ⟨n0, n1, n2, n3, n4⟩ := ex10_next
  constructor
  · rintro ⟨⟨h1, h2⟩, h3⟩
    refine ⟨h1, h2, ?_⟩
    have h4 : (((nextZ exS10 (a : Int) false).1 : Nat) : Int) = (c : Int) := of_decide_eq_true h3
    have h : a = 0 ∨ a = 1 ∨ a = 2 ∨ a = 3 ∨ a = 4 := by omega
    rcases h with rfl | rfl | rfl | rfl | rfl
    · rw [show ((0 : Nat) : Int) = 0 from rfl, n0] at h4; simp only [ex10_at]; simp at h4 ⊢; omega
    · rw [show ((1 : Nat) : Int) = 1 from rfl, n1] at h4; simp only [ex10_at]; simp at h4 ⊢; omega
    · rw [show ((2 : Nat) : Int) = 2 from rfl, n2] at h4; simp only [ex10_at]; simp at h4 ⊢; omega
    · rw [show ((3 : Nat) : Int) = 3 from rfl, n3] at h4; simp only [ex10_at]; simp at h4 ⊢; omega
    · rw [show ((4 : Nat) : Int) = 4 from rfl, n4] at h4; simp only [ex10_at]; simp at h4 ⊢; omega
  · rintro ⟨h1, h2, h3⟩
    refine ⟨⟨h1, h2⟩, ?_⟩
    show decide ((((nextZ exS10 (a : Int) false).1 : Nat) : Int) = (c : Int)) = true
    rw [decide_eq_true_eq, ← h3]
    have h : a = 0 ∨ a = 1 ∨ a = 2 ∨ a = 3 ∨ a = 4 := by omega
    rcases h with rfl | rfl | rfl | rfl | rfl
    · rw [show ((0 : Nat) : Int) = 0 from rfl, n0]; rfl
    · rw [show ((1 : Nat) : Int) = 1 from rfl, n1]; rfl
    · rw [show ((2 : Nat) : Int) = 2 from rfl, n2]; rfl
    · rw [show ((3 : Nat) : Int) = 3 from rfl, n3]; rfl
    · rw [show ((4 : Nat) : Int) = 4 from rfl, n4]; rfl
/-- Where the example leads. -/
theorem ex10_leads (a b : Nat) : exT10.leads (envOf exS10 false false) a b ↔ (a = 1 ∧ b = 2) ∨ (a = 1 ∧ b = 3) ∨ (2 ≤ a ∧ a < b ∧ b ≤ 5) := by
  have hR : ∀ x y, (trN 6 [trC 98, trC 99]).leads (envOf exS10 false false) x y ↔ 2 ≤ x ∧ x < 5 ∧ y = x + 1 := fun x y => by
    unfold trN
    rw [Tr.leads, if_neg (by decide), if_neg (by decide), if_pos rfl, Tr.leadsAny, Tr.leadsAny, Tr.leadsAny, ex10_chr, ex10_chr]
    unfold ex10_at
    constructor
    · rintro (⟨h1, h2, h3⟩ | ⟨h1, h2, h3⟩ | h)
      · refine ⟨?_, h1, h2⟩
        repeat' split at h3
        all_goals omega
      · refine ⟨?_, h1, h2⟩
        repeat' split at h3
        all_goals omega
      · exact h.elim
    · rintro ⟨h1, h2, h3⟩
      have h : x = 2 ∨ x = 3 ∨ x = 4 := by omega
      rcases h with rfl | rfl | rfl
      · exact .inl ⟨h2, h3, rfl⟩
      · exact .inr (.inl ⟨h2, h3, rfl⟩)
      · exact .inl ⟨h2, h3, rfl⟩
  have hI : ∀ n x y, iterR (fun x y => (trN 6 [trC 98, trC 99]).leads (envOf exS10 false false) x y) n x y ↔ y = x + n ∧ (n = 0 ∨ (2 ≤ x ∧ y ≤ 5)) := fun n => by
    induction n with
    | zero => intro x y; show x = y ↔ _; omega
    | succ n ih =>
      intro x y
      show (∃ m, _ ∧ iterR _ n m y) ↔ _
      constructor
      · rintro ⟨m, h1, h2⟩
        have h1 := (hR x m).1 h1
        have h2 := (ih m y).1 h2
        omega
      · rintro ⟨h1, h2⟩
        exact ⟨x + 1, (hR x _).2 (by omega), (ih _ y).2 (by omega)⟩
  have e : exT10.leads (envOf exS10 false false) a b ↔ (trC 97).leads (envOf exS10 false false) a b ∨ ((∃ m, (trC 97).leads (envOf exS10 false false) a m ∧ (trC 98).leads (envOf exS10 false false) m b) ∨ ((∃ n : Nat, (1 : Int) ≤ n ∧ iterR (fun x y => (trN 6 [trC 98, trC 99]).leads (envOf exS10 false false) x y) n a b) ∨ False)) := by
    unfold exT10
    rw [trN, Tr.leads, if_neg (by decide), if_neg (by decide), if_pos rfl, Tr.leadsAny, Tr.leadsAny, Tr.leadsAny, Tr.leadsAny, trN, Tr.leads, if_neg (by decide), if_pos rfl, Tr.leadsRow, trR, Tr.leads, if_neg (by decide), if_neg (by decide), if_neg (by decide), if_pos rfl]
    refine or_congr Iff.rfl (or_congr ?_ (or_congr ?_ Iff.rfl))
    · constructor
      · rintro ⟨m, h1, h2⟩
        rw [Tr.leadsRow] at h2
        obtain ⟨m2, h3, h4⟩ := h2
        rw [Tr.leadsRow] at h4
        exact ⟨m, h1, h4 ▸ h3⟩
      · rintro ⟨m, h1, h2⟩
        exact ⟨m, h1, by rw [Tr.leadsRow]; exact ⟨b, h2, by rw [Tr.leadsRow]⟩⟩
    · have hh : (fun x y => Tr.leadsHead (envOf exS10 false false) [trN 6 [trC 98, trC 99]] x y) = fun x y => (trN 6 [trC 98, trC 99]).leads (envOf exS10 false false) x y := by
        funext x y
        rw [Tr.leadsHead]
      rw [hh]
      constructor
      · rintro ⟨n, h1, _, h2⟩; exact ⟨n, h1, h2⟩
      · rintro ⟨n, h1, h2⟩; exact ⟨n, h1, .inl rfl, h2⟩
  rw [e, ex10_chr]
  constructor
  · rintro (⟨h1, h2, h3⟩ | ⟨m, h1, h2⟩ | ⟨n, h1, h2⟩ | h)
    · left
      unfold ex10_at at h3
      repeat' split at h3
      all_goals omega
    · right; left
      obtain ⟨h3, h4, h5⟩ := (ex10_chr 97 a m).1 h1
      obtain ⟨h6, h7, h8⟩ := (ex10_chr 98 m b).1 h2
      unfold ex10_at at h5
      repeat' split at h5
      all_goals omega
    · right; right
      have := (hI n a b).1 h2
      omega
    · exact h.elim
  · rintro (⟨rfl, rfl⟩ | ⟨rfl, rfl⟩ | ⟨h1, h2, h3⟩)
    · exact .inl ⟨by omega, rfl, rfl⟩
    · exact .inr (.inl ⟨2, (ex10_chr 97 1 2).2 ⟨by omega, rfl, rfl⟩, (ex10_chr 98 2 3).2 ⟨by omega, rfl, rfl⟩⟩)
    · exact .inr (.inr (.inl ⟨b - a, by omega, (hI _ a b).2 (by omega)⟩))
theorem ex10_rising : Rising (envOf exS10 false false) := fun a b h => by have := (ex10_nxt a b).1 h; omega
theorem ex10_on {o a : Nat} (h : NOn (envOf exS10 false false) o a) : o ≤ a := h.le ex10_rising
theorem ex10_one : Told (NOn (envOf exS10 false false) 0) (exT10.leads (envOf exS10 false false)) true 1 3 :=
  ⟨fun _ => ⟨.next .here ((ex10_nxt 0 1).2 ⟨by omega, rfl⟩), (ex10_leads 1 3).2 (.inr (.inl ⟨rfl, rfl⟩))⟩, fun a b _ hl => by
    have := (ex10_leads a b).1 hl
    exact ⟨rfl, by omega⟩⟩
theorem ex10_two : Told (NOn (envOf exS10 false false) 2) (exT10.leads (envOf exS10 false false)) true 2 5 :=
  ⟨fun _ => ⟨.here, (ex10_leads 2 5).2 (.inr (.inr ⟨by omega, by omega, by omega⟩))⟩, fun a b ha hl => by
    have := (ex10_leads a b).1 hl
    have := ex10_on ha
    exact ⟨rfl, by omega⟩⟩
theorem ex10_place : nplaceZ exS10 0 false = 0 ∧ nplaceZ exS10 2 false = 2 := by
  refine ⟨by kernel_rfl, by kernel_rfl⟩
end Go.Proofs.YtdfacbcenogplaaDoor

namespace Go.Proofs.YtdfacbcenogplaaDoor
open Go.RowKit Go.Lib Go.Maps

theorem Blk.drew' {W : World} {g : Nat} {cs : Array Value} {t : TypeId} (h : Blk W g cs t) : Blk W.drew g cs t := ⟨h.row⟩
theorem Blk.two {W : World} {g : Nat} {a b : Value} {t : TypeId} (k : Blk W g #[a, b] t) : W.cell? ⟨g, 0, none⟩ = some a ∧ W.cell? ⟨g, 1, none⟩ = some b := ⟨k.cell 0, k.cell 1⟩
/-- Nothing that was there has turned: the trees so far. -/
theorem kds_move {w w' : World} {n k : Nat} {v : Value} {ts : List Tr} {xs : List Value} (ho : w.ownsRow n 58 7 v k xs) (hx : ∀ (j : Nat) (t : Tr), ts[j]? = some t → t.In w (fun g => (n ≤ g ∧ SetB w g) ∧ some g ≠ v.ownBlock) (rdL xs (j * 7))) (hb : Below w.heap.size w w') :
    w'.ownsRow n 58 7 v k xs ∧ ∀ (j : Nat) (t : Tr), ts[j]? = some t → t.In w' (fun g => (n ≤ g ∧ SetB w' g) ∧ some g ≠ v.ownBlock) (rdL xs (j * 7)) :=
  ⟨own_bel ho hb, fun j t hj => (hx j t hj).kept fun g hg hp => ⟨⟨⟨hp.1.1, hp.1.2.kept (hb.block g hg)⟩, hp.2⟩, hb.block g hg⟩⟩
theorem rg_not_own {w : World} {n k : Nat} {v : Value} {xs : List Value} {g : Nat} (ho : w.ownsRow n 58 7 v k xs) (hg : RgB w g) : some g ≠ v.ownBlock := fun q => by
  obtain ⟨cs, hb⟩ := hg
  rcases ho.2 with ⟨e, _⟩ | ⟨g', cap', cur, e, _, hr, _⟩
  · rw [e] at q; cases q
  · rw [e] at q
    cases q
    have := hb.row
    rw [hr] at this
    injection this with this
    injection this with _ this
    exact absurd this (by decide)
/-- What is asked of the kids. -/
def OwnKids (fold bytes : Bool) (kids : List Tr) : Prop := ∀ t ∈ kids, ∀ (d : Nat) (P : Nat → Prop) (vs : Array Value) (W : World), t.shape d = true → TrV W P t vs → Calls Tryd.prog 47 #[.agg vs, .agg #[.bool fold, .bool bytes]] W (OwnOut W (t.ownT (chLow fold bytes)))
end Go.Proofs.YtdfacbcenogplaaDoor
