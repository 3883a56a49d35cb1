/-
  BitsBack for every argument: within its bounds and outside.
-/
import Derived.Test.YtdfickppfihiiaaDoorBackWalk
namespace Go.Proofs.YtdfickppfihiiaaDoor
open Go.RowKit

theorem back_any (a b c : Int) (s t : ByteArray) (pad : Int) (w : World) (_ha : -9223372036854775808 ≤ a ∧ a ≤ 9223372036854775807) (_hb : -9223372036854775808 ≤ b ∧ b ≤ 9223372036854775807) (hc : -9223372036854775808 ≤ c ∧ c ≤ 9223372036854775807)
    (_hs : s.size ≤ 140737488351232) (_ht : t.size ≤ 140737488351232) (_hp : -9223372036854775808 ≤ pad ∧ pad ≤ 9223372036854775807) :
    Calls Tryd.prog 4 #[.int .i64 a, .int .i64 b, .int .i64 c, .string s, .string t, .int .i64 pad] w fun e w' => e = .returned (.bool true) ∧ Below w.heap.size w w' := by
  by_cases h : s.size ≤ 1000 ∧ t.size ≤ 1000 ∧ 0 ≤ a ∧ a ≤ 255 ∧ 0 ≤ b ∧ b < 4294967296 ∧ 0 ≤ c ∧ 0 ≤ pad ∧ pad ≤ 200
  · obtain ⟨h1, h2, h3, h4, h5, h6, h7, h8, h9⟩ := h
    exact back_in a b c pad s t w h1 h2 h3 h4 h5 h6 h7 hc.2 h8 h9
  · exact back_out a b c s t pad w (by omega)
end Go.Proofs.YtdfickppfihiiaaDoor
