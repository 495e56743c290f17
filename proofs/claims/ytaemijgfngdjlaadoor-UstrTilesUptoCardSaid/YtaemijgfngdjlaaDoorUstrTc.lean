/- The law UstrTiles, walked. -/
import Derived.Test.YtaemijgfngdjlaaDoorUstrTa
import Derived.Test.YtaemijgfngdjlaaDoorUstrTb
namespace Go.Proofs.YtaemijgfngdjlaaDoor
open Go.RowKit Go.Lib

theorem ustrTiles_any (s : ByteArray) (n : Int) (b : Bool) (w : World) (hs : s.size ≤ 1048576) (hT : Utf8Tabs 0 1 w) :
    Calls Tryd.prog 8 #[.string s, .int .i64 n, .bool b] w fun e w' => e = .returned (.bool true) ∧ Below w.heap.size w w' := by
  obtain ⟨m, hm, hmc⟩ : ∃ m : Nat, min (max n 1) ((cnt s b : Int) + 1) = (m : Int) + 1 ∧ m ≤ cnt s b := ⟨(min (max n 1) ((cnt s b : Int) + 1) - 1).toNat, by omega, by omega⟩
  by_cases h : m < cnt s b
  · cases hb : b with
    | false => subst hb; exact tiles_mid s n m false rfl h hm w hs hT
    | true => subst hb; exact tiles_byte s n m true rfl h hm w hs hT
  · exact tiles_end s n m b (by omega) hm w hs hT
end Go.Proofs.YtaemijgfngdjlaaDoor
