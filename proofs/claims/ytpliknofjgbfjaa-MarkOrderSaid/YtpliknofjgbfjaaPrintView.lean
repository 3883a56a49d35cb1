/-
  A fingerprint that came in as an argument: its kind and its bytes. No statement is proved here.
-/
import Derived.Test.YtpliknofjgbfjaaProg
import Derived.WalkKit
import Derived.ProofKit
import Derived.OpenShut
import Derived.Lib.SmallJoins
namespace Go.Proofs.Ytpliknofjgbfjaa
open Go.ChangeShapes Go.WideShapes Go.ChangeAt Go.RowKit Go.Joins

theorem cellsPrint : Try.prog.cellsOf 23 = 2 := by kernel_rfl
theorem view_print {H : Type} {enc : TypeId × Value → H} {W : World} {base : Nat} {v : Value} {d : DataW H} {p : List MemPlace} (hv : Value.okWide Try.prog W .any base 23 v)
    (h : DataW.Trod enc Try.prog W 0 (fun _ => true) true 23 v d p) :
    ∃ (a : Int) (s : ByteArray), v = .agg #[.int .i64 a, .string s] ∧ d = .agg [.lit (.int .i64 a), .lit (.string s.data.toList)] ∧ p = [] ∧ (-9223372036854775808 ≤ a ∧ a ≤ 9223372036854775807) ∧
      ∀ (W' : World) (sp : Nat → Bool), DataW.Trod enc Try.prog W' 0 sp true 23 (.agg #[.int .i64 a, .string s]) (.agg [.lit (.int .i64 a), .lit (.string s.data.toList)]) [] := by
  obtain ⟨c0, c1, y0, y1, m, rfl, rfl, rfl, hy0, hy1⟩ := open_agg2 Try.underlying23 (by kernel_rfl) cellsPrint hv h
  obtain ⟨a, e0, rfl, wa⟩ := DataW.trod_int Try.underlying3 hy0
  obtain ⟨s, e1, rfl, ws⟩ := DataW.trod_string Try.underlying9 hy1
  simp at e0 e1
  subst e0 e1
  exact ⟨a, s, rfl, rfl, rfl, bounds_i64 wa, fun W' sp => shut_agg2 (y0 := (.lit (.int .i64 a), [])) (y1 := (.lit (.string s.data.toList), [])) Try.underlying23 (by kernel_rfl) cellsPrint
    ⟨1, by simp [DataW.trod, Try.underlying3, wa]⟩ ⟨1, by simp [DataW.trod, Try.underlying9, ws]⟩⟩
end Go.Proofs.Ytpliknofjgbfjaa
