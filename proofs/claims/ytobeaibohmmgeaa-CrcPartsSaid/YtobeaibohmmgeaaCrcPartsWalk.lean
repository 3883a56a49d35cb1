/-
  CrcParts, walked at every input. No statement is proved here.
-/
import Derived.Test.YtobeaibohmmgeaaCrcSeal
import Derived.Test.YtobeaibohmmgeaaCrcAlive
namespace Go.Proofs.Ytobeaibohmmgeaa
open Go.RowKit

theorem cats_two (a b : ByteArray) : cats [a, b] = a.data.toList ++ b.data.toList := by simp [cats]
theorem cats_both (a b : ByteArray) : cats [a ++ b] = a.data.toList ++ b.data.toList := by simp [cats]
theorem cats_four (a b : ByteArray) : cats [.empty, a, .empty, b] = a.data.toList ++ b.data.toList := by simp [cats]
theorem more1 {w w' : World} (h : Below w.heap.size w w') (o : Obj) : Below w.heap.size w (w'.alloc o) := h.alloc h.size o
theorem more4 {w w' : World} (h : Below w.heap.size w w') (o p q r : Obj) : Below w.heap.size w ((((w'.alloc o).alloc p).alloc q).alloc r) := more1 (more1 (more1 (more1 h o) p) q) r
theorem more6 {w w' : World} (h : Below w.heap.size w w') (o p q r s t : Obj) : Below w.heap.size w ((((((w'.alloc o).alloc p).alloc q).alloc r).alloc s).alloc t) := more1 (more1 (more4 h o p q r) s) t
theorem crc_none : crc (cats []) = 0 := by decide +kernel
theorem texts_small {xs : List ByteArray} {B : Nat} (hl : xs.length ≤ 1000) (hB : B ≤ 100000) (h : ∀ x ∈ xs, x.size ≤ B) : TextsFit xs := ⟨hl, fun x hx => Nat.le_trans (h x hx) hB⟩

set_option maxRecDepth 100000 in
set_option maxHeartbeats 1000000 in
theorem parts_out (a b : ByteArray) (w : World) (h : 800 < a.size ∨ 800 < b.size) (ha : a.size ≤ 140737488351232) (hb : b.size ≤ 140737488351232) :
    Calls Try.prog 5 #[.string a, .string b] w fun e w' => e = .returned (.bool true) ∧ Below w.heap.size w w' := by
  by_cases h1 : 800 < a.size
  · clear h
    go_enter Try.func5, Try.ntmps5
    go_wp2_with fail
    refine (alive2_any _).mono ?_
    rintro e w1 ⟨rfl, hb1⟩
    go_wp2_with fail
    go_ret
    exact ⟨rfl, hb1⟩
  · have h2 : 800 < b.size := by omega
    have h1' : a.size ≤ 800 := by omega
    clear h h1
    go_enter Try.func5, Try.ntmps5
    go_wp2_with fail
    refine (alive2_any _).mono ?_
    rintro e w1 ⟨rfl, hb1⟩
    go_wp2_with fail
    go_ret
    exact ⟨rfl, hb1⟩

set_option maxRecDepth 100000 in
set_option maxHeartbeats 4000000 in
theorem parts_in (a b : ByteArray) (w : World) (ha : a.size ≤ 800) (hb : b.size ≤ 800) :
    Calls Try.prog 5 #[.string a, .string b] w fun e w' => e = .returned (.bool true) ∧ Below w.heap.size w w' := by
  have hab : a.size + b.size ≤ 9223372036854775807 := by omega
  have habs : (a ++ b).size ≤ 1600 := by rw [ByteArray.size_append]; omega
  have hL : ((a.data.toList ++ b.data.toList).length : Int) ≤ 2000 - 4 := by rw [List.length_append, ← Lib.size_eq, ← Lib.size_eq]; omega
  obtain ⟨S, hS⟩ : ∃ S : ByteArray, Hid (sealV 2000 (a.data.toList ++ b.data.toList) = .tuple #[.string S, .int .i64 0]) := ⟨_, Lib.hid (by unfold sealV; rw [sealB_ok (by omega) (by omega) hL])⟩
  have HF2 : Hid (TextsFit [a, b]) := Lib.hid (texts_small (B := 800) (by simp) (by omega) (by intro x hx; simp only [List.mem_cons, List.mem_nil_iff, or_false] at hx; rcases hx with rfl | rfl <;> omega))
  have HF1 : Hid (TextsFit [a ++ b]) := Lib.hid (texts_small (B := 1600) (by simp) (by omega) (by intro x hx; rw [List.mem_singleton.1 hx]; exact habs))
  obtain ⟨c, hc⟩ : ∃ c, Hid (crc (a.data.toList ++ b.data.toList) = c) := ⟨_, Lib.hid rfl⟩
  have hof2 : ∀ (g : Nat) (W : World), Txts W W.heap.size (some ⟨g, 0, none⟩) [a, b] → Calls Try.prog 15 #[.slice (some ⟨g, 0, none⟩) 2 2] W fun e w' => e = .returned (.int .u32 c) ∧ W = w' := fun g W hx => by
    have := of_any (some ⟨g, 0, none⟩) 2 2 [a, b] W rfl hx (by simp) (by intro x hx; simp only [List.mem_cons, List.mem_nil_iff, or_false] at hx; rcases hx with rfl | rfl <;> omega)
    rw [cats_two, hc.out] at this
    exact this
  have HO2 := Lib.hid hof2
  have hof1 : ∀ (g : Nat) (W : World), Txts W W.heap.size (some ⟨g, 0, none⟩) [a ++ b] → Calls Try.prog 15 #[.slice (some ⟨g, 0, none⟩) 1 1] W fun e w' => e = .returned (.int .u32 c) ∧ W = w' := fun g W hx => by
    have := of_any (some ⟨g, 0, none⟩) 1 1 [a ++ b] W rfl hx (by simp) (by intro x hx; rw [List.mem_singleton.1 hx]; omega)
    rw [cats_both, hc.out] at this
    exact this
  have HO1 := Lib.hid hof1
  have hof4 : ∀ (g : Nat) (W : World), Txts W W.heap.size (some ⟨g, 0, none⟩) [.empty, a, .empty, b] → Calls Try.prog 15 #[.slice (some ⟨g, 0, none⟩) 4 4] W fun e w' => e = .returned (.int .u32 c) ∧ W = w' := fun g W hx => by
    have := of_any (some ⟨g, 0, none⟩) 4 4 [.empty, a, .empty, b] W rfl hx (by simp) (by intro x hx; simp only [List.mem_cons, List.mem_nil_iff, or_false] at hx; rcases hx with rfl | rfl | rfl | rfl <;> first | omega | exact Nat.zero_le _)
    rw [cats_four, hc.out] at this
    exact this
  have HO4 := Lib.hid hof4
  clear hof1 hof2 hof4 hL habs
  go_enter Try.func5, Try.ntmps5
  go_wp2_with fail
  refine (alive2_any _).mono ?_
  rintro e w1 ⟨rfl, hb1⟩
  go_wp2_with fail
  with_reducible refine (seal_any 2000 (some ⟨w1.heap.size, 0, none⟩) 2 2 [a, b] _ rfl ?_ HF2.out).mono ?_
  · exact txts_at _ _ _ _ rfl rfl
  rintro e w2 ⟨rfl, hb2⟩
  rw [cats_two, hS.out]
  have hb2' : Below w.heap.size w w2 := (hb1.alloc hb1.size _).trans (hb2.mono (by have := hb1.size; simp; omega))
  clear hb2 hb1
  go_wp2_with fail
  with_reducible refine (seal_any 2000 (some ⟨w2.heap.size, 0, none⟩) 1 1 [a ++ b] _ rfl ?_ HF1.out).mono ?_
  · exact txts_at _ _ _ _ rfl rfl
  rintro e w3 ⟨rfl, hb3⟩
  rw [cats_both, hS.out]
  have hb3' : Below w.heap.size w w3 := (hb2'.alloc hb2'.size _).trans (hb3.mono (by have := hb2'.size; simp; omega))
  clear hb3 hb2'
  go_wp2_with fail
  refine (HO2.out w3.heap.size _ (txts_at _ _ _ _ rfl rfl)).mono ?_
  rintro e w4 ⟨rfl, rfl⟩
  go_wp2_with fail
  refine (HO1.out (w3.heap.size + 1) _ (txts_at _ _ _ _ (by simp) rfl)).mono ?_
  rintro e w4 ⟨rfl, rfl⟩
  go_wp2_with fail
  refine (HO4.out (w3.heap.size + 1 + 1) _ (txts_at _ _ _ _ (by simp) rfl)).mono ?_
  rintro e w4 ⟨rfl, rfl⟩
  go_wp2_with fail
  refine (HO2.out (w3.heap.size + 1 + 1 + 1) _ (txts_at _ _ _ _ (by simp) rfl)).mono ?_
  rintro e w4 ⟨rfl, rfl⟩
  by_cases he : a = b
  · subst he
    go_wp2_with fail
    refine (HO2.out (w3.heap.size + 1 + 1 + 1 + 1) _ (txts_at _ _ _ _ (by simp) rfl)).mono ?_
    rintro e w4 ⟨rfl, rfl⟩
    go_wp2_with fail
    refine (HO2.out (w3.heap.size + 1 + 1 + 1 + 1 + 1) _ (txts_at _ _ _ _ (by simp) rfl)).mono ?_
    rintro e w4 ⟨rfl, rfl⟩
    go_wp2_with fail
    refine (of_any none 0 0 [] _ rfl (Txts.nil _ _ _) (by simp) (by simp)).mono ?_
    rintro e w4 ⟨rfl, rfl⟩
    rw [crc_none]
    go_wp2_with fail
    go_ret
    exact ⟨by first | rfl | simp, more6 hb3' _ _ _ _ _ _⟩
  · have hne : (a.toList == b.toList) = false := by
      rw [beq_eq_false_iff_ne, Lib.toList_data, Lib.toList_data]
      exact fun h => he (ByteArray.ext (Array.toList_inj.1 h))
    clear he
    go_wp2_with fail
    refine (of_any none 0 0 [] _ rfl (Txts.nil _ _ _) (by simp) (by simp)).mono ?_
    rintro e w4 ⟨rfl, rfl⟩
    rw [crc_none]
    go_wp2_with fail
    go_ret
    exact ⟨by first | rfl | simp, more4 hb3' _ _ _ _⟩

theorem parts_any (a b : ByteArray) (w : World) (ha : a.size ≤ 140737488351232) (hb : b.size ≤ 140737488351232) :
    Calls Try.prog 5 #[.string a, .string b] w fun e w' => e = .returned (.bool true) ∧ Below w.heap.size w w' := by
  by_cases h : 800 < a.size ∨ 800 < b.size
  · exact parts_out a b w h ha hb
  · exact parts_in a b w (by omega) (by omega)
end Go.Proofs.Ytobeaibohmmgeaa
