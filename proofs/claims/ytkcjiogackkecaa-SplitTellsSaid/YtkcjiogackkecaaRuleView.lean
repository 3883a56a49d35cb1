/-
  A rule that came in as an argument: its five numbers. No statement is proved here.
-/
import Derived.Test.YtkcjiogackkecaaCdcSmall
import Derived.WalkKit
import Derived.ProofKit
import Derived.OpenShut
import Derived.Lib.SmallJoins
namespace Go.Proofs.Ytkcjiogackkecaa
open Go.ChangeShapes Go.WideShapes Go.ChangeAt Go.RowKit Go.Joins Go.Deep Go.WideElems Go.Maps

theorem array5 {α : Type} {cs : Array α} (h : cs.size = 5) : ∃ c0 c1 c2 c3 c4, cs = #[c0, c1, c2, c3, c4] := by
  obtain ⟨l⟩ := cs
  match l, h with
  | [c0, c1, c2, c3, c4], _ => exact ⟨c0, c1, c2, c3, c4, rfl⟩
theorem list5 {α : Type} {xs : List α} (h : xs.length = 5) : ∃ c0 c1 c2 c3 c4, xs = [c0, c1, c2, c3, c4] := by
  match xs, h with
  | [c0, c1, c2, c3, c4], _ => exact ⟨c0, c1, c2, c3, c4, rfl⟩
set_option maxRecDepth 100000 in
theorem cellsRule : Try.prog.cellsOf 23 = 5 := by kernel_rfl
set_option maxRecDepth 100000 in
theorem rule_under : ∃ f0 f1 f2 f3 f4 : Field, Try.prog.underlying 23 = some (.struct #[f0, f1, f2, f3, f4]) ∧ (f0.type = 3 ∧ f1.type = 3 ∧ f2.type = 3 ∧ f3.type = 3 ∧ f4.type = 3) ∧ oneCellFields Try.prog #[f0, f1, f2, f3, f4] = true := ⟨_, _, _, _, _, Try.underlying23, ⟨rfl, rfl, rfl, rfl, rfl⟩, by kernel_rfl⟩
set_option maxRecDepth 100000 in
set_option maxHeartbeats 1000000 in
theorem view_rule {H : Type} {enc : TypeId × Value → H} {W : World} {base : Nat} {v : Value} {d : DataW H} {p : List MemPlace} (hv : Value.okWide Try.prog W .any base 23 v)
    (h : DataW.Trod enc Try.prog W 0 (fun _ => true) true 23 v d p) :
    ∃ R : RuleN, v = R.val ∧ d = .agg [.lit (.int .i64 R.mn), .lit (.int .i64 R.md), .lit (.int .i64 R.mx), .lit (.int .i64 R.hd), .lit (.int .i64 R.sf)] ∧ p = [] ∧
      ∀ (W' : World) (sp : Nat → Bool), DataW.Trod enc Try.prog W' 0 sp true 23 R.val (.agg [.lit (.int .i64 R.mn), .lit (.int .i64 R.md), .lit (.int .i64 R.mx), .lit (.int .i64 R.hd), .lit (.int .i64 R.sf)]) [] := by
  obtain ⟨f0, f1, f2, f3, f4, hs, ⟨t0, t1, t2, t3, t4⟩, hone⟩ := rule_under
  obtain ⟨cs, rfl, hsz⟩ := okWide_struct hs hv
  obtain ⟨c0, c1, c2, c3, c4, rfl⟩ := array5 (hsz.trans cellsRule)
  obtain ⟨fuel, hf⟩ := h
  obtain ⟨xs, n, _, hx, hl, hlen, hff⟩ := DataW.trod_struct hs hf
  obtain ⟨y0, y1, y2, y3, y4, rfl⟩ := list5 hlen
  obtain ⟨o0, k0⟩ := hone_of hone 0 f0 rfl
  obtain ⟨o1, k1⟩ := hone_of hone 1 f1 rfl
  obtain ⟨o2, k2⟩ := hone_of hone 2 f2 rfl
  obtain ⟨o3, k3⟩ := hone_of hone 3 f3 rfl
  obtain ⟨o4, k4⟩ := hone_of hone 4 f4 rfl
  have h0 := hff 0 f0 rfl
  have h1 := hff 1 f1 rfl
  have h2 := hff 2 f2 rfl
  have h3 := hff 3 f3 rfl
  have h4 := hff 4 f4 rfl
  simp [Value.cells, o0, k0, o1, k1, o2, k2, o3, k3, o4, k4] at h0 h1 h2 h3 h4
  rw [t0] at h0
  rw [t1] at h1
  rw [t2] at h2
  rw [t3] at h3
  rw [t4] at h4
  obtain ⟨a0, e0, rfl, b0⟩ := DataW.trod_int Try.underlying3 h0
  obtain ⟨a1, e1, rfl, b1⟩ := DataW.trod_int Try.underlying3 h1
  obtain ⟨a2, e2, rfl, b2⟩ := DataW.trod_int Try.underlying3 h2
  obtain ⟨a3, e3, rfl, b3⟩ := DataW.trod_int Try.underlying3 h3
  obtain ⟨a4, e4, rfl, b4⟩ := DataW.trod_int Try.underlying3 h4
  simp at e0 e1 e2 e3 e4
  subst e0 e1 e2 e3 e4
  simp only [Prod.mk.injEq] at hx
  refine ⟨⟨a0, a1, a2, a3, a4⟩, rfl, by simpa using hx.1, by simpa using hx.2, fun W' sp => ?_⟩
  have g : ∀ a : Int, (Lit.int IntKind.i64 a).wf = true → DataW.trod enc Try.prog W' 0 sp true 1 3 [.int .i64 a] = some (.lit (.int .i64 a), []) := fun a wa => by simp [DataW.trod, Try.underlying3, wa]
  have ci : Try.prog.cellsOf 3 = 1 := by kernel_rfl
  have ts := trod_struct_mk (enc := enc) (w := W') (base := 0) (spare := sp) (held := true) (n := 1) (cs := [.int .i64 a0, .int .i64 a1, .int .i64 a2, .int .i64 a3, .int .i64 a4]) (xs := [(.lit (.int .i64 a0), []), (.lit (.int .i64 a1), []), (.lit (.int .i64 a2), []), (.lit (.int .i64 a3), []), (.lit (.int .i64 a4), [])]) hs (by simp [cellsRule])
    (by simp [o0, o1, o2, o3, o4, ci, t0, t1, t2, t3, t4, g _ b0, g _ b1, g _ b2, g _ b3, g _ b4])
  exact ⟨_, by simpa [Value.cells, RuleN.val] using ts⟩
end Go.Proofs.Ytkcjiogackkecaa
