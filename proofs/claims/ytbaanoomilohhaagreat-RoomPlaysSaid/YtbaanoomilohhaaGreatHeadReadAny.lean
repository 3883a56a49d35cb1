/-
  Package head's Read of any bytes: what it answers as a plain function. No statement is proved here.
-/
import Derived.Test.YtbaanoomilohhaaGreatHeadSome
import Derived.Test.YtbaanoomilohhaaGreatHeadRead
namespace Go.Proofs.YtbaanoomilohhaaGreat
open Go.RowKit

theorem trim_none {l : List UInt8} : (Lib.trimB l 0).isEmpty = l.all (· == 0) := by
  cases h : l.all (· == 0) with
  | true =>
    unfold Lib.trimB Lib.trimLeftB Lib.trimRightB
    have h1 : l.reverse.dropWhile (· == 0) = [] := by
      have hh : ∀ r : List UInt8, r.all (· == 0) = true → r.dropWhile (· == 0) = [] := fun r => by
        induction r with
        | nil => intro _; rfl
        | cons x r ih =>
          intro h
          rw [List.all_cons, Bool.and_eq_true] at h
          rw [List.dropWhile_cons, if_pos h.1]
          exact ih h.2
      exact hh _ (by rw [List.all_reverse]; exact h)
    rw [h1]
    rfl
  | false =>
    obtain ⟨x, hx, hp⟩ : ∃ x ∈ l, (x == (0 : UInt8)) = false := by
      have h := h
      rw [List.all_eq_false] at h
      obtain ⟨x, hx, hp⟩ := h
      exact ⟨x, hx, by simpa using hp⟩
    unfold Lib.trimB Lib.trimLeftB Lib.trimRightB
    have h1 : x ∈ (l.reverse.dropWhile (· == 0)).reverse := by
      rw [List.mem_reverse]
      exact dropWhile_keeps _ x (by rw [List.mem_reverse]; exact hx) hp
    have h2 := dropWhile_keeps (· == 0) x h1 hp
    cases h : ((l.reverse.dropWhile (· == 0)).reverse.dropWhile (· == 0)) with
    | nil => rw [h] at h2; cases h2
    | cons _ _ => rfl
theorem row_ints {w : World} {base : Nat} {A : Option Addr} {c : Nat} {l : List Int} (h : w.ownsRow base 3 1 (.slice A l.length c) l.length (l.map (Value.int .i64))) : Ints w w.heap.size A l := fun hp => by
  obtain ⟨gv, cap, e, _, hlt2⟩ := h.form hp
  injection e with e1 _ e3
  subst e1 e3
  refine ⟨gv, 0, rfl, hlt2, fun i x hx => ?_⟩
  have hc := h.cells (g := gv) rfl i (.int .i64 x) (by rw [List.getElem?_map, hx]; rfl)
  rwa [add_off] at hc
theorem row_lower {w : World} {base base' : Nat} {e : TypeId} {size : Nat} {v : Value} {n : Nat} {xs : List Value} (h : w.ownsRow base e size v n xs) (hb : base' ≤ base) : w.ownsRow base' e size v n xs := by
  refine ⟨h.1, ?_⟩
  rcases h.2 with hn | ⟨g, cap, cur, rfl, hb1, rest⟩
  · exact .inl hn
  · exact .inr ⟨g, cap, cur, rfl, by omega, rest⟩
def HD.zero : HD := ⟨0, false, []⟩
/-- What Read answers. -/
def readHD (b : List UInt8) : HD × Int :=
  if b.length ≠ 256 then (HD.zero, 5)
  else if b.all (· == 0) then (HD.zero, 0)
  else if (openB b).2 ≠ 0 then (HD.zero, (openB b).2)
  else if (parseHD (bs (openB b).1)).validB = true ∧ (parseHD (bs (openB b).1)).text = b then (parseHD (bs (openB b).1), 0) else (HD.zero, 6)

end Go.Proofs.YtbaanoomilohhaaGreat
