/-
  A sector's write that came in as an argument: its place and its bytes. No statement is proved here.
-/
import Derived.Test.YtnpmeolibdjgpaaGreatDoorProg
import Derived.WalkKit
import Derived.ProofKit
import Derived.OpenShut
import Derived.Lib.SmallJoins
namespace Go.Proofs.YtnpmeolibdjgpaaGreatDoor
open Go.ChangeShapes Go.WideShapes Go.ChangeAt Go.RowKit Go.Joins

set_option maxRecDepth 100000 in
theorem cellsWrite : Tryz.prog.cellsOf 71 = 2 := by kernel_rfl
set_option maxRecDepth 100000 in
theorem view_write {H : Type} {enc : TypeId × Value → H} {W : World} {base : Nat} {v : Value} {d : DataW H} {p : List MemPlace} (hv : Value.okWide Tryz.prog W .any base 71 v)
    (h : DataW.Trod enc Tryz.prog W 0 (fun _ => true) true 71 v d p) :
    ∃ (a : Int) (s : ByteArray), v = .agg #[.int .i64 a, .string s] ∧ d = .agg [.lit (.int .i64 a), .lit (.string s.data.toList)] ∧ p = [] ∧ (-9223372036854775808 ≤ a ∧ a ≤ 9223372036854775807) ∧
      ∀ (W' : World) (sp : Nat → Bool), DataW.Trod enc Tryz.prog W' 0 sp true 71 (.agg #[.int .i64 a, .string s]) (.agg [.lit (.int .i64 a), .lit (.string s.data.toList)]) [] := by
  obtain ⟨c0, c1, y0, y1, m, rfl, rfl, rfl, hy0, hy1⟩ := open_agg2 Tryz.underlying71 (by kernel_rfl) cellsWrite hv h
  obtain ⟨a, e0, rfl, wa⟩ := DataW.trod_int Tryz.underlying3 hy0
  obtain ⟨s, e1, rfl, ws⟩ := DataW.trod_string Tryz.underlying9 hy1
  simp at e0 e1
  subst e0 e1
  exact ⟨a, s, rfl, rfl, rfl, bounds_i64 wa, fun W' sp => shut_agg2 (y0 := (.lit (.int .i64 a), [])) (y1 := (.lit (.string s.data.toList), [])) Tryz.underlying71 (by kernel_rfl) cellsWrite
    ⟨1, by simp [DataW.trod, Tryz.underlying3, wa]⟩ ⟨1, by simp [DataW.trod, Tryz.underlying9, ws]⟩⟩
end Go.Proofs.YtnpmeolibdjgpaaGreatDoor
