/- Contracts of layer 2: fresh, mulAdd. -/
import Derived.Test.YtflnackpkcldjaaDoorNatC
namespace Go.Proofs.YtflnackpkcldjaaDoor
open Go.RowKit Go.Lib

/-- The end of a contract that makes a row of its own. -/
def Makes (κ : IntKind) (t : TypeId) (w : World) (xs : List Nat) (e : Ending) (w' : World) : Prop := ∃ v, e = .returned v ∧ Own κ w' w.heap.size t v xs ∧ Below w.heap.size w w'

set_option maxRecDepth 100000 in
set_option maxHeartbeats 1000000 in
theorem fresh_any (A : Option Addr) (cap : Nat) (xs : List Nat) (w : World) (hxn : xs.length ≤ 100000) (hr : Rd .u32 w A xs) (hA : A = none → cap = 0) :
    Calls Tryd.prog 36 #[.slice A xs.length cap] w (Makes .u32 47 w xs) := by
  obtain ⟨i0, hi, hz0, hz1, hz2⟩ := info_parts info_u32
  have hn0 : w.ownsRow w.heap.size 47 1 (.slice none 0 0) 0 [] := World.ownsRow_nil _ _ _ _
  rcases A with _ | ⟨g, o, p⟩
  · obtain rfl := hA rfl
    have hx : xs = [] := by
      by_cases h : xs = []
      · exact h
      · obtain ⟨_, _, e, _⟩ := hr.at_ h
        cases e
    subst hx
    go_enter Tryd.func36, Tryd.ntmps36
    go_wp2_with (at_builtin; refine wpList_append_own_none rfl _ _ 22 rfl w.heap.size 47 i0 1 Tryd.underlying22 hi _ 0 [] rfl hn0 rfl ?_)
    go_ret
    exact ⟨_, rfl, Own.nil _ _ _, Below.refl _ _⟩
  · have hp : xs ≠ [] → p = none := fun h => by
      obtain ⟨_, _, e, _⟩ := hr.at_ h
      cases e; rfl
    have hc : ∀ j u, (nums .u32 xs)[j]? = some u → w.cell? ((⟨g, o, p⟩ : Addr).add j) = some u := by
      by_cases hx : xs = []
      · subst hx; intro j u hu; simp [nums] at hu
      · obtain rfl := hp hx
        exact hr.news
    go_enter Tryd.func36, Tryd.ntmps36
    go_wp2_with (at_builtin; refine wpList_append_own _ rfl _ _ 22 rfl w.heap.size 47 i0 (.int .u32 0) 1 4 Tryd.underlying22 hi hz0 hz1 hz2 rfl (by decide) _ _ _ rfl hn0 ⟨g, o, p⟩ xs.length cap (nums .u32 xs) rfl ?c1 hc (nums_one _ _) ?c3 ?c4 ?c5 ?_)
    case c1 => rw [nums_len]; omega
    case c3 => unfold maxLen; omega
    case c4 => omega
    case c5 => exact Nat.le_refl _
    intro v w1 hown hgrow _
    try simp only [Nat.zero_add, List.nil_append] at hown
    have HO := Lib.hid hown; clear hown
    have hB : Below w.heap.size w w1 := (Below.refl _ _).grown hgrow (Nat.le_refl _) (fun k e => by cases e)
    clear hgrow hc hp
    go_wp2
    go_ret
    exact ⟨v, rfl, HO.out, hB⟩

/-- mulAdd's numbers. -/
theorem mul_norm {xs ys : List Nat} {tm more : Nat} (hx : Norm B32 xs) (ht : 0 < tm) (hl : Lim B32 ys) (hv : vl B32 ys = vl B32 xs * tm + more) (hlen : ys.length = xs.length ∨ Top ys) : dig B32 (vl B32 xs * tm + more) = ys := by
  refine dig_eq (by decide) ⟨hl, ?_⟩ hv
  rcases hlen with h | h
  · refine top_of_ge hl ?_
    by_cases e : xs = []
    · left; subst e; exact List.eq_nil_of_length_eq_zero h
    · right
      have h1 := vl_top (B := B32) hx.2 e
      have h2 : vl B32 xs * 1 ≤ vl B32 xs * tm := Nat.mul_le_mul_left _ ht
      rw [h, hv]
      omega
  · exact h

set_option maxRecDepth 100000 in
set_option maxHeartbeats 1000000 in
theorem mulAdd_any (A : Option Addr) (cap tm more B : Nat) (xs : List Nat) (w : World) (hx : Norm B32 xs) (hxn : xs.length ≤ 100000) (ht0 : 0 < tm) (htm : tm < 4294967296) (hmo : more < 4294967296) (hB : B ≤ w.heap.size)
    (hO : Own .u32 w B 47 (.slice A xs.length cap) xs) :
    Calls Tryd.prog 48 #[.slice A xs.length cap, .int .u32 tm, .int .u32 more] w fun e w' => ∃ v, e = .returned v ∧ Own .u32 w' B 47 v (dig B32 (vl B32 xs * tm + more)) ∧ Below B w w' := by
  obtain ⟨i0, hi, hz0, hz1, hz2⟩ := info_parts info_u32
  go_enter Tryd.func48, Tryd.ntmps48
  go_wp2
  go_loopw [7, 13] (fun c i wr => ∃ (k z : Nat) (cur : List Nat), k ≤ xs.length ∧ i = .int .i64 k ∧ c = .int .u64 z ∧ Own .u32 wr B 47 (.slice A xs.length cap) cur ∧ MulR B32 tm more xs cur k z ∧ Below B w wr) (fun _ i _ => xs.length - (RowKit.intOf i).toNat)
  case atStart => exact ⟨0, more, xs, Nat.zero_le _, rfl, rfl, hO, mulR_start hx.1 hmo, Below.refl _ _⟩
  case round =>
    obtain ⟨k, z, cur, hk, rfl, rfl, hOw, hR, hBe⟩ := hrel
    have hz : z < 4294967296 := hR.2.2
    have hlen := hR.1.len
    by_cases hlt : k < xs.length
    · obtain ⟨g, rfl, hBg⟩ := hOw.addr (by omega)
      have hcl := hOw.cell k (by omega)
      have hfz : wr.frozen? ⟨g, k, none⟩ = false := World.ownsRow.frozenAt (hOw.row hlen) k
      rw [up_get hR.1 hlt] at hcl
      obtain ⟨x, hxe, hxk⟩ := lim32 hx.1 k hlt
      rw [hxe] at hcl
      have HX := Lib.hid hxe; clear hxe
      obtain ⟨f1, f2, f3⟩ := prod_fits hxk htm hz
      clear f3
      have HL := Lib.hid hlen; clear hlen
      go_wp2
      go_roundw
      case rel =>
        have hs := hOw.set HL.out.symm k ((z + x * tm) % 4294967296)
        exact ⟨k + 1, (z + x * tm) / 4294967296, cur.set k ((z + x * tm) % 4294967296), hlt, by go_num, vint (by omega), by rw [show ((z : Int) + (x : Int) * (tm : Int)) % 4294967296 = (((z + x * tm) % 4294967296 : Nat) : Int) by omega]; exact hs,
          mulR_step (B := 4294967296) hR htm hx.1 hlt _ (by rw [HX.out]), hBe.setCell hBg _⟩
      case measure => simp [RowKit.intOf]; omega
    · obtain rfl : k = xs.length := by omega
      have hv := hR.2.1
      rw [vl_take_all (by omega), vl_take_all (Nat.le_refl _)] at hv
      by_cases hz0' : z = 0
      · subst hz0'
        have HE := Lib.hid (mul_norm hx ht0 hR.1.lim (by rw [← hv]; simp) (.inl hlen))
        clear hv
        go_wp2
        go_ret
        exact ⟨_, rfl, by rw [HE.out]; exact hOw, hBe⟩
      · have HE := Lib.hid (mul_norm (ys := cur ++ [z]) hx ht0 (lim_append.2 ⟨hR.1.lim, lim_one.2 hz⟩) (by rw [← hv, vl_snoc, hlen]) (.inr (top_snoc.2 hz0')))
        have HL := Lib.hid hlen
        have hown : wr.ownsRow B 47 1 (.slice A xs.length cap) xs.length (nums .u32 cur) := hOw.row hlen
        have hsz := hBe.size
        clear hv hlen
        go_wp2_with (at_builtin; refine wpList_append_own _ rfl _ _ 22 rfl B 47 i0 (.int .u32 0) 1 4 Tryd.underlying22 hi hz0 hz1 hz2 rfl (by decide) _ _ _ rfl (hown.alloc _) ⟨wr.heap.size, 0, none⟩ 1 1 [.int .u32 z] rfl rfl (cell_one_new _ _ _) ?c2 ?c3 ?c4 ?c5 ?_)
        case c2 => simp [Value.oneCell']
        case c3 => unfold maxLen; omega
        case c4 => omega
        case c5 => first | omega | (simp; omega)
        intro v' w1 hown' hgrow _
        have hB1 : Below B w w1 := (hBe.alloc (by omega) _).grown hgrow (by simp; omega) (fun r e => (hown.lt r e).1)
        have HO := Lib.hid (Own.snoc hown' HL.out.symm); clear hown'
        clear hown hgrow
        go_wp2
        go_ret
        exact ⟨v', rfl, by rw [HE.out]; exact HO.out, hB1⟩
end Go.Proofs.YtflnackpkcldjaaDoor
