/-
  A number put at its place, once; lists that rise strictly. No statement is proved here.
-/
import Derived.Test.YtbaanoomilohhaaGreatHeadPure
namespace Go.Proofs.YtbaanoomilohhaaGreat

def putL (x : Int) : List Int → List Int
  | [] => [x]
  | y :: r => if y < x then y :: putL x r else if y = x then y :: r else x :: y :: r
theorem putL_mem (x z : Int) : ∀ l : List Int, z ∈ putL x l ↔ z = x ∨ z ∈ l
  | [] => by simp [putL]
  | y :: r => by
    unfold putL
    split
    · rw [List.mem_cons, putL_mem x z r, List.mem_cons]
      constructor
      · rintro (h | h | h)
        · exact .inr (.inl h)
        · exact .inl h
        · exact .inr (.inr h)
      · rintro (h | h | h)
        · exact .inr (.inl h)
        · exact .inl h
        · exact .inr (.inr h)
    · split
      · rename_i h
        subst h
        simp
      · simp
theorem putL_strict (x : Int) : ∀ l : List Int, l.Pairwise (· < ·) → (putL x l).Pairwise (· < ·)
  | [], _ => by simp [putL]
  | y :: r, h => by
    rw [List.pairwise_cons] at h
    unfold putL
    split
    · rename_i hyx
      rw [List.pairwise_cons]
      refine ⟨fun z hz => ?_, putL_strict x r h.2⟩
      rcases (putL_mem x z r).1 hz with rfl | hz
      · exact hyx
      · exact h.1 z hz
    · split
      · rw [List.pairwise_cons]; exact h
      · rename_i h1 h2
        rw [List.pairwise_cons]
        refine ⟨fun z hz => ?_, by rw [List.pairwise_cons]; exact h⟩
        rcases List.mem_cons.1 hz with rfl | hz
        · omega
        · have := h.1 z hz
          omega
/-- Lists that rise strictly and have the same members are the same. -/
theorem strict_ext : ∀ (a b : List Int), a.Pairwise (· < ·) → b.Pairwise (· < ·) → (∀ x, x ∈ a ↔ x ∈ b) → a = b
  | [], [], _, _, _ => rfl
  | [], y :: r, _, _, h => by have := (h y).2 (by simp); cases this
  | x :: l, [], _, _, h => by have := (h x).1 (by simp); cases this
  | x :: l, y :: r, ha, hb, h => by
    rw [List.pairwise_cons] at ha hb
    have hxy : x = y := by
      rcases List.mem_cons.1 ((h x).1 (by simp)) with e | e
      · exact e
      · rcases List.mem_cons.1 ((h y).2 (by simp)) with e' | e'
        · exact e'.symm
        · have h1 := hb.1 x e
          have h2 := ha.1 y e'
          omega
    subst hxy
    congr 1
    refine strict_ext l r ha.2 hb.2 fun z => ⟨fun hz => ?_, fun hz => ?_⟩
    · rcases List.mem_cons.1 ((h z).1 (by simp [hz])) with e | e
      · have := ha.1 z hz
        omega
      · exact e
    · rcases List.mem_cons.1 ((h z).2 (by simp [hz])) with e | e
      · have := hb.1 z hz
        omega
      · exact e
theorem putAll_spec (l : List Int) : ∀ (acc : List Int), acc.Pairwise (· < ·) → (l.foldl (fun a x => putL x a) acc).Pairwise (· < ·) ∧ ∀ z, z ∈ l.foldl (fun a x => putL x a) acc ↔ z ∈ acc ∨ z ∈ l := by
  induction l with
  | nil => intro acc h; exact ⟨h, fun z => by simp⟩
  | cons x r ih =>
    intro acc h
    obtain ⟨h1, h2⟩ := ih (putL x acc) (putL_strict x acc h)
    refine ⟨h1, fun z => ?_⟩
    rw [List.foldl_cons, h2 z, putL_mem, List.mem_cons]
    constructor
    · rintro ((h | h) | h)
      · exact .inr (.inl h)
      · exact .inl h
      · exact .inr (.inr h)
    · rintro (h | h | h)
      · exact .inl (.inr h)
      · exact .inl (.inl h)
      · exact .inr h
end Go.Proofs.YtbaanoomilohhaaGreat
