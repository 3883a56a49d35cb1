/-
  Package head's Read of what Lay lays. No statement is proved here.
-/
import Derived.Test.YtbaanoomilohhaaGreatHeadParse
import Derived.Test.YtbaanoomilohhaaGreatHeadLib
import Derived.Test.YtbaanoomilohhaaGreatCrcOpen
namespace Go.Proofs.YtbaanoomilohhaaGreat
open Go.RowKit

/-- A struct in a cell of its own, and a number. -/
theorem hret_cell2 {P : Program} {fn : Func} {R : Ending → World → Prop} {a : Act} {w : World} {q r : Tmp} {ty : TypeId} {ad : Addr} {v u : Value} (h : fn.results = #[.cell q ty, .tmp r]) (hp : a.tmps.getD q undef = .pointer (some ad))
    (hl : (loadVar ty ad).run P w = .ok v w) (hu : a.tmps.getD r undef = u) (hd : a.defers = []) (hR : R (.returned (.tuple #[v, u])) w) : bodyPost P fn R .ret a w := by
  refine bodyPost_ret (v := .tuple #[v, u]) ?_ hd hR
  simp only [results, h]
  have hp' : a.tmps[q]?.getD undef = .pointer (some ad) := by simpa using hp
  have hu' : a.tmps[r]?.getD undef = u := by simpa using hu
  simp [hp', hu', asAddr, hl]
theorem dropWhile_keeps {l : List UInt8} (p : UInt8 → Bool) (x : UInt8) (hx : x ∈ l) (hp : p x = false) : x ∈ l.dropWhile p := by
  induction l with
  | nil => cases hx
  | cons y r ih =>
    rw [List.dropWhile_cons]
    split
    · rename_i hy
      rcases List.mem_cons.1 hx with rfl | hx
      · rw [hp] at hy; cases hy
      · exact ih hx
    · exact hx
theorem trim_keeps {l : List UInt8} (hx : (7 : UInt8) ∈ l) : (Lib.trimB l 0).isEmpty = false := by
  unfold Lib.trimB Lib.trimLeftB Lib.trimRightB
  have h1 : (7 : UInt8) ∈ (l.reverse.dropWhile (· == 0)).reverse := by
    rw [List.mem_reverse]
    exact dropWhile_keeps _ 7 (by rw [List.mem_reverse]; exact hx) (by decide)
  have h2 := dropWhile_keeps (· == 0) 7 h1 (by decide)
  cases h : ((l.reverse.dropWhile (· == 0)).reverse.dropWhile (· == 0)) with
  | nil => rw [h] at h2; cases h2
  | cons _ _ => rfl

end Go.Proofs.YtbaanoomilohhaaGreat
