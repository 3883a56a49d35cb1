/-
  MarkNone, walked.
-/
import Derived.Test.YtokddfbjjghpkaaDoorMarkRef
import Derived.Test.YtokddfbjjghpkaaDoorChainG
namespace Go.Proofs.YtokddfbjjghpkaaDoor
open Go.RowKit

/-- A slot written. -/
def putD (t : Array Value) : Option Nat → Value → Array Value
  | some s, v => t.setIfInBounds s v
  | none, _ => t
/-- A frame but for what the region wrote, written out. -/
theorem FrameD.lit {a : Act} {k : Nat} {D : Nat → Option Nat} {x : Act} (h : FrameD a k D x) :
    ∃ u : Nat → Value, (∀ i, u i = slotOf x (D i)) ∧ x = ⟨(List.range k).foldl (fun t i => putD t (D i) (u i)) a.tmps, a.defers⟩ := by
  refine ⟨fun i => slotOf x (D i), fun _ => rfl, ?_⟩
  have key : ∀ n, n ≤ k → ((List.range n).foldl (fun t i => putD t (D i) (slotOf x (D i))) a.tmps).size = a.tmps.size ∧
      ∀ s, ((List.range n).foldl (fun t i => putD t (D i) (slotOf x (D i))) a.tmps)[s]? = (if ∃ i, i < n ∧ D i = some s then x.tmps[s]? else a.tmps[s]?) := by
    intro n
    induction n with
    | zero => intro _; exact ⟨rfl, fun s => by rw [if_neg (by rintro ⟨i, hi, _⟩; omega)]; rfl⟩
    | succ n ih =>
      intro hn
      obtain ⟨h1, h2⟩ := ih (by omega)
      rw [List.range_succ, List.foldl_append]
      simp only [List.foldl_cons, List.foldl_nil]
      clear ih
      generalize (List.range n).foldl (fun t i => putD t (D i) (slotOf x (D i))) a.tmps = G at *
      cases hD : D n with
      | none =>
        refine ⟨h1, fun s => ?_⟩
        show G[s]? = _
        rw [h2 s]
        congr 1
        apply propext
        constructor
        · rintro ⟨i, hi, e⟩; exact ⟨i, by omega, e⟩
        · rintro ⟨i, hi, e⟩
          by_cases hin : i = n
          · subst hin; rw [hD] at e; cases e
          · exact ⟨i, by omega, e⟩
      | some t =>
        refine ⟨by simp only [putD, Array.size_setIfInBounds]; exact h1, fun s => ?_⟩
        simp only [putD]
        by_cases hst : t = s
        · subst hst
          rw [if_pos ⟨n, by omega, hD⟩, Array.getElem?_setIfInBounds_self]
          rw [h1, ← h.2.1]
          by_cases hlt : t < x.tmps.size
          · rw [if_pos hlt]
            simp [slotOf, hlt]
          · rw [if_neg hlt, Array.getElem?_eq_none (by omega)]
        · rw [Array.getElem?_setIfInBounds_ne hst, h2 s]
          congr 1
          apply propext
          constructor
          · rintro ⟨i, hi, e⟩; exact ⟨i, by omega, e⟩
          · rintro ⟨i, hi, e⟩
            by_cases hin : i = n
            · subst hin; rw [hD] at e; exact absurd (Option.some.inj e) hst
            · exact ⟨i, by omega, e⟩
  obtain ⟨_, h2⟩ := key k (Nat.le_refl _)
  obtain ⟨X, dd⟩ := x
  obtain rfl : dd = a.defers := h.1
  congr 1
  apply Array.ext_getElem?
  intro s
  rw [h2 s]
  split
  · rfl
  · rename_i hno
    exact h.2.2 s (fun i hi e => hno ⟨i, hi, e⟩)

/-- The error that Read tells. -/
def readE (b : ByteArray) : Int := if b.size ≠ 33 then 5 else if readOk b = true then 0 else 6
theorem readE_form (b : ByteArray) : ∃ (rk : Int) (rs : ByteArray), readV b = .tuple #[.agg #[.int .i64 rk, .string rs], .int .i64 (readE b)] := by
  unfold readV readE
  split
  · exact ⟨_, _, rfl⟩
  · split
    · exact ⟨_, _, rfl⟩
    · exact ⟨_, _, rfl⟩
theorem cat_list (a b : ByteArray) : (a ++ b).data.toList = a.data.toList ++ b.data.toList := by rw [ByteArray.data_append, Array.toList_append]
/-- A kind's byte ahead of 32 bytes. -/
theorem readE_kind (x : Nat) (hx : x < 256) (B1 : ByteArray) (h : B1.size = 32) (hz : (B1.data.toList.drop 20).all (· == 0) = true) : readE (⟨#[x.toUInt8]⟩ ++ B1) = if x = 1 ∨ x = 2 then 0 else 6 := by
  have hs : ((⟨#[x.toUInt8]⟩ : ByteArray) ++ B1).size = 33 := by rw [ByteArray.size_append, h]; rfl
  have hl : ((⟨#[x.toUInt8]⟩ : ByteArray) ++ B1).data.toList = x.toUInt8 :: B1.data.toList := by rw [cat_list]; rfl
  have hB : B1.data.toList.length = 32 := by rw [← Lib.size_eq]; exact h
  have hk : kindB ((⟨#[x.toUInt8]⟩ : ByteArray) ++ B1) = (x : Int) := by
    unfold kindB
    rw [hl]
    show ((x % 256 : Nat) : Int) = x
    omega
  unfold readE
  rw [if_neg (by rw [hs]; decide)]
  unfold readOk
  rw [hk, hs, hl]
  by_cases h1 : x = 1
  · subst h1
    rw [show (if ((1 : Nat) = 1 ∨ (1 : Nat) = 2) then (0 : Int) else 6) = 0 from if_pos (.inl rfl)]
    refine if_pos ?_
    rw [show sizeK ((1 : Nat) : Int) = 20 from rfl]
    simpa using hz
  · by_cases h2 : x = 2
    · subst h2
      rw [show (if ((2 : Nat) = 1 ∨ (2 : Nat) = 2) then (0 : Int) else 6) = 0 from if_pos (.inr rfl)]
      refine if_pos ?_
      rw [show sizeK ((2 : Nat) : Int) = 32 from rfl]
      have : B1.data.toList.drop 32 = [] := List.drop_of_length_le (by omega)
      simp [this]
    · rw [show (if (x = 1 ∨ x = 2) then (0 : Int) else 6) = 6 from if_neg (by omega)]
      refine if_neg ?_
      rw [sizeK_other (by omega) (by omega)]
      simp
theorem one_byte (w : World) (g : Nat) (x : Nat) (hx : x < 256) (h : Blk w g 5 #[.int .u8 (x : Int)]) :
    (convert 31 9 (.slice (some ⟨g, 0, none⟩) 1 1)).run Tryd.prog w = .ok (.string ⟨#[x.toUInt8]⟩) w := by
  refine run_convert_bytes_back (P := Tryd.prog) w 31 9 5 ⟨g, 0, none⟩ 1 [x.toUInt8] Tryd.underlying31 Tryd.underlying5 Tryd.underlying9 (fun i hi => ?_)
  obtain rfl : i = 0 := by simpa using hi
  rw [Go.WideShapes.add_plain, h.cell (0 + 0)]
  show some (Value.int .u8 (x : Int)) = some (.int .u8 ((x.toUInt8.toNat : Nat) : Int))
  rw [show x.toUInt8.toNat = x % 256 from rfl]
  congr 2
  omega

def mnD (i : Nat) : Option Nat := [some 81, some 82, some 83, some 84, some 85, some 86, some 87, some 88, some 80, some 89, some 90, some 17, none, some 18].getD i none
theorem mnD_inj (i j s : Nat) (hi : i < 14) (hj : j < 14) (h1 : mnD i = some s) (h2 : mnD j = some s) : i = j :=
  (by decide : ∀ i, i < 14 → ∀ j, j < 14 → mnD i ≠ none → mnD i = mnD j → i = j) i hi j hj (by rw [h1]; simp) (h1.trans h2.symm)
theorem mnD_lt (i s : Nat) (hi : i < 14) (h : mnD i = some s) : s < 117 := by
  have := (by decide : ∀ i, i < 14 → (mnD i).getD 0 < 117) i hi
  rw [h] at this
  exact this
def mnC (n : Nat) : Nat := [11, 12].getD n 0
theorem mnC_inj (i j : Nat) (hi : i < 2) (hj : j < 2) (h : mnC i = mnC j) : i = j := (by decide : ∀ i, i < 2 → ∀ j, j < 2 → mnC i = mnC j → i = j) i hi j hj h
theorem mnC_lt : ∀ i, i < 2 → mnC i < 14 := by decide
def mnF (kind : Int) (x : Nat) (B B1 rs : ByteArray) (rk j : Int) : Nat → Value → World → Prop
  | 0, v, _ => v = .int .i64 kind
  | 1, v, _ => v = .int .u8 (x : Int)
  | 2, v, w => ∃ b', v = .slice (some ⟨b', 0, none⟩) 1 1 ∧ Blk w b' 5 #[.int .u8 (x : Int)]
  | 3, v, _ => v = .string ⟨#[x.toUInt8]⟩
  | 4, v, _ => v = .string B
  | 5, v, _ => v = .string B1
  | 6, v, _ => v = .string (⟨#[x.toUInt8]⟩ ++ B1)
  | 7, v, _ => v = .tuple #[.agg #[.int .i64 rk, .string rs], .int .i64 j]
  | 8, v, _ => v = .tuple #[.agg #[.int .i64 rk, .string rs], .int .i64 j]
  | 9, v, _ => v = .agg #[.int .i64 rk, .string rs]
  | 10, v, _ => v = .int .i64 j
  | 13, v, _ => v = .int .i64 j
  | _, _, _ => True
theorem mnF_kept {kind : Int} {x : Nat} {B B1 rs : ByteArray} {rk j : Int} (i : Nat) (v : Value) (w w' : World) (h : mnF kind x B B1 rs rk j i v w) (hg : GrownT 24 w w') : mnF kind x B B1 rs rk j i v w' := by
  unfold mnF at h ⊢
  split at h <;> first
    | exact h
    | (obtain ⟨b, hv, hb⟩ := h; exact ⟨b, hv, hb.grownT hg (by decide)⟩)
    | trivial
def mnCh (W0 : World) : Nat → Value → World → Prop
  | 1, v, w => Below W0.heap.size W0 w ∧ ∃ g, v = .pointer (some ⟨g, 0, none⟩) ∧ W0.heap.size ≤ g ∧ Blk w g 24 #[.int .i64 0, .string ⟨#[]⟩]
  | _, _, w => Below W0.heap.size W0 w
theorem mnCh_below {W0 : World} {n : Nat} {v : Value} {w : World} (h : mnCh W0 n v w) : Below W0.heap.size W0 w := by
  unfold mnCh at h
  split at h
  · exact h.1
  · exact h
theorem mnCh_kept {W0 : World} (n : Nat) (v : Value) (w w' : World) (h : mnCh W0 n v w) (hg : w.grownBy w' none) : mnCh W0 n v w' := by
  have hb := mnCh_below h
  have hb' : Below W0.heap.size W0 w' := hb.trans ((below_by hg).mono hb.size)
  unfold mnCh at h ⊢
  split at h
  · obtain ⟨_, g, hv, hW, ho⟩ := h
    exact ⟨hb', g, hv, hW, ho.grown hg (by simp)⟩
  · exact hb'
end Go.Proofs.YtokddfbjjghpkaaDoor
