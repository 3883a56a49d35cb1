/-
  Lists of numbers that came in as arguments (over XNums' Ints), for a closing text. No statement is proved here.
-/
import Derived.Test.YtkcjiogackkecaaNums
import Derived.Test.YtkcjiogackkecaaViews
namespace Go.Proofs.Ytkcjiogackkecaa
open Go.ChangeShapes Go.WideShapes Go.ChangeAt Go.RowKit
open Go.WideMaps Go.WideElems

theorem cellsIntV : Try.prog.cellsOf 3 = 1 := by kernel_rfl
/-- Numbers as they came in. -/
structure IntsV (w : World) (A : Option Addr) (m c : Nat) (l : List Int) : Prop where
  len : l.length = m
  lie : Ints w w.heap.size A l
  nil_ : A = none → m = 0 ∧ c = 0
  few : m ≤ 9223372036854775807
theorem view_ints {H : Type} {enc : TypeId × Value → H} {W : World} {a : Option Addr} {n c : Nat} {d : DataW H} {p : List MemPlace} (h : DataW.Trod enc Try.prog W 0 (fun _ => true) true 68 (.slice a n c) d p) :
    ∃ l : List Int, IntsV W a n c l := by
  obtain ⟨fuel, hf⟩ := h
  rcases open_ints Try.underlying68 Try.underlying3 cellsIntV hf with ⟨hcs, _⟩ | ⟨a', len, cap, zs, hcs, _, hl, hcap, hz, _, hc, hw⟩
  · simp [Value.cells] at hcs
    obtain ⟨rfl, rfl, rfl⟩ := hcs
    exact ⟨[], rfl, Ints.nil _ _ _, fun _ => ⟨rfl, rfl⟩, by omega⟩
  · simp [Value.cells] at hcs
    obtain ⟨rfl, rfl, rfl⟩ := hcs
    simp only [if_true] at hz
    have hmax : maxLen = 9223372036854775807 := rfl
    have hlen : (zs.take n).length = n := by rw [List.length_take]; omega
    refine ⟨zs.take n, hlen, ?_, (fun e => by cases e), by omega⟩
    intro hpos
    rw [hlen] at hpos
    obtain ⟨b, off, rfl, hb, hc'⟩ := plain_at hc (by omega)
    refine ⟨b, off, rfl, hb, fun j x hx => ?_⟩
    rw [List.getElem?_take] at hx
    split at hx
    · have := hc' j (by omega)
      rw [this, List.getD_eq_getElem?_getD, hx]
      rfl
    · cases hx
end Go.Proofs.Ytkcjiogackkecaa
