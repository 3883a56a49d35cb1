/-
  Package wal's laws: what is written at a time; a set of places. No statement is proved here.
-/
import Derived.Test.YtnpmeolibdjgpaaGreatDoorWalAlive
import Derived.Maps.StringElems
namespace Go.Proofs.YtnpmeolibdjgpaaGreatDoor
open Go.RowKit Go.WideMaps Go.Maps

theorem one_byte9 (w : World) (x : Nat) (hx : x < 256) :
    (convert 86 9 (.slice (some ⟨w.heap.size, 0, none⟩) 1 1)).run Tryz.prog (w.alloc (.cells #[.int .u8 (x : Int)] 5)) = .ok (.string ⟨#[x.toUInt8]⟩) (w.alloc (.cells #[.int .u8 (x : Int)] 5)) := by
  have h := blk_text (w.alloc (.cells #[.int .u8 (x : Int)] 5)) w.heap.size [x.toUInt8] 1 rfl (by
    have hb := Blk.new w 5 #[.int .u8 (x : Int)]
    have e : (Lib.byteCells [x.toUInt8]).toArray = #[.int .u8 (x : Int)] := by
      show #[Value.int .u8 ((x.toUInt8.toNat : Nat) : Int)] = _
      have : x.toUInt8.toNat = x := by simp [Nat.toUInt8]; omega
      rw [this]
    rw [e]
    exact hb)
  exact h
/-- What is written at time i. -/
def roundB (i : Nat) : ByteArray := fillB ⟨#[(97 + i).toUInt8]⟩
theorem roundB_size (i : Nat) : (roundB i).size = 256 := fillB_size _

set_option maxRecDepth 100000 in
set_option maxHeartbeats 1000000 in
theorem round_any (i : Nat) (w : World) (hi : i < 100) :
    Calls Tryz.prog 45 #[.int .i64 (i : Int)] w fun e w' => e = .returned (.string (roundB i)) ∧ Below w.heap.size w w' := by
  have hcv := one_byte9 w (97 + i) (by omega)
  have HF : Hid (∀ W, Calls Tryz.prog 29 #[.string ⟨#[(97 + i).toUInt8]⟩] W fun e w' => e = .returned (.string (roundB i)) ∧ Below W.heap.size W w') := Lib.hid (fun W => fill_any _ W (by show 1 ≤ _; omega))
  obtain ⟨R, hR⟩ : ∃ R, R = roundB i := ⟨_, rfl⟩
  rw [← hR] at HF ⊢
  obtain ⟨T, hT⟩ : ∃ T : ByteArray, T = ⟨#[(97 + i).toUInt8]⟩ := ⟨_, rfl⟩
  rw [← hT] at HF hcv
  obtain ⟨q, hq⟩ : ∃ q : Int, q = ((97 + i : Nat) : Int) := ⟨_, rfl⟩
  rw [← hq] at hcv
  have hq1 : (97 : Int) + (i : Int) = q := by omega
  have hq2 : q % 256 = q := by omega
  have hi2 : (i : Int) < 100 := by omega
  have hq3 : IntKind.u8.wrap q = q := by rw [IntKind.wrap_u8]; omega
  clear hR hT hq
  go_enter Tryz.func45, Tryz.ntmps45
  go_wp2_with fail
  refine (HF.out _).mono ?_
  rintro e w1 ⟨rfl, hb1⟩
  go_wp2_with fail
  go_ret
  exact ⟨rfl, ((Below.refl _ _).alloc (Nat.le_refl _) _).trans (hb1.mono (by simp))⟩

/-- The place that a number names. -/
def atK (y : Int) : Nat := (y % 80).toNat
theorem atK_lt (y : Int) : atK y < 80 := by unfold atK; omega
theorem atK_steps (y : Int) : ∃ t : Int, y.tmod 80 = t ∧ -80 < t ∧ t < 80 ∧ (t + 80).tmod 80 = (atK y : Int) ∧ (t + 80) % 80 = (atK y : Int) := by
  refine ⟨y.tmod 80, rfl, ?_, ?_, ?_⟩
  · have := Int.lt_tmod_of_pos y (show (0 : Int) < 80 by omega); omega
  · exact Int.tmod_lt_of_pos y (by omega)
  · have h1 : -80 < y.tmod 80 := Int.lt_tmod_of_pos y (show (0 : Int) < 80 by omega)
    have h2 : y.tmod 80 < 80 := Int.tmod_lt_of_pos y (by omega)
    have h3 : (y.tmod 80 + 80) % 80 = (atK y : Int) := by
      have e : y = 80 * (y.tdiv 80) + y.tmod 80 := (Int.mul_tdiv_add_tmod y 80).symm
      unfold atK
      omega
    refine ⟨?_, h3⟩
    rw [Int.tmod_eq_emod_of_nonneg (by omega)]
    exact h3

theorem putL_count (x : Int) : ∀ l : List Int, l.Pairwise (· < ·) → (putL x l).length = if x ∈ l then l.length else l.length + 1
  | [], _ => by simp [putL]
  | y :: r, h => by
    obtain ⟨h1, h2⟩ := List.pairwise_cons.1 h
    unfold putL
    by_cases hy : y < x
    · rw [if_pos hy]
      have ih := putL_count x r h2
      have hne : ¬ x = y := by omega
      simp only [List.length_cons, ih, List.mem_cons, hne, false_or]
      split <;> rfl
    · rw [if_neg hy]
      by_cases he : y = x
      · rw [if_pos he, if_pos (by simp [he])]
      · rw [if_neg he, if_neg (fun hm => by
          rcases List.mem_cons.1 hm with e | hm
          · exact he e.symm
          · have := h1 x hm; omega)]
        rfl

/-- The set in block b holds just these. -/
def SetIs (w : World) (b n : Nat) (L : List Int) : Prop :=
  ∃ D : DataW Unit, w.ownsMap Tryz.prog 3 (plainElem Tryz.prog 4) b n D ∧ Maps.size D = L.length ∧ ∀ t : Int, -9223372036854775808 ≤ t → t ≤ 9223372036854775807 → Maps.has D (.int .i64 t) = decide (t ∈ L)
theorem SetIs.lt {w : World} {b n : Nat} {L : List Int} (h : SetIs w b n L) : b < w.heap.size := by
  obtain ⟨D, h, _⟩ := h
  exact h.lt
theorem SetIs.kept {w w' : World} {b n : Nat} {L : List Int} (h : SetIs w b n L) (hb : w'.heap[b]? = w.heap[b]?) : SetIs w' b n L := by
  obtain ⟨D, ⟨es, clock, h1, h2⟩, h3⟩ := h
  exact ⟨D, ⟨es, clock, hb.trans h1, h2⟩, h3⟩
theorem SetIs.below {w w' : World} {b n : Nat} {L : List Int} (h : SetIs w b n L) (hb : Below w.heap.size w w') : SetIs w' b n L := h.kept (hb.block b h.lt)
theorem SetIs.made (w : World) : SetIs (w.alloc (.map #[] 0)) w.heap.size 0 [] :=
  ⟨.map [], World.ownsMap_made _ _ _ _, rfl, fun _ _ _ => rfl⟩
set_option maxRecDepth 100000 in
theorem SetIs.update {w : World} {b n : Nat} {L : List Int} (h : SetIs w b n L) (hn : n < 1000000) (hL : L.Pairwise (· < ·)) {k : Int} (hk1 : -9223372036854775808 ≤ k) (hk2 : k ≤ 9223372036854775807) :
    ∃ w', (Instr.mapUpdate 88 (.map (some b)) (.int .i64 k) (.bool true)).run Tryz.prog w = .ok () w' ∧ SetIs w' b (n + 1) (putL k L) ∧ w.grownBy w' (some b) := by
  obtain ⟨D, h1, h2, h3⟩ := h
  have hkey := mkeyI hk1 hk2
  obtain ⟨w', hr, h5, h4⟩ := h1.update mlawI Tryz.underlying88 (by unfold maxLen; omega) hkey (plainElem_bool Tryz.underlying4 true)
  refine ⟨w', hr, ⟨_, h5, ?_, fun i hi1 hi2 => ?_⟩, h4⟩
  · rw [size_put (h1.tidy mlawI), h3 k hk1 hk2, putL_count k L hL, h2]
    by_cases hm : k ∈ L
    · simp [hm]
    · simp [hm]
  · by_cases hik : i = k
    · subst hik
      rw [has_put_same h1.isMap (show WideAt.IsKeyLit (Lit.int .i64 i) from trivial) _]
      simp [putL_mem]
    · have hne : (Lit.int .i64 i) ≠ .int .i64 k := fun e => by
        injection e with _ e
        exact hik e
      rw [has_put_other hne, h3 i hi1 hi2]
      simp [putL_mem, hik]
theorem SetIs.len {w : World} {b n : Nat} {L : List Int} (h : SetIs w b n L) : (Builtin.len_ #[88] 3 #[.map (some b)]).run Tryz.prog w = .ok (.int .i64 (L.length : Int)) w := by
  obtain ⟨D, h1, h2, _⟩ := h
  have := h1.len Tryz.underlying88 3
  rw [h2] at this
  exact this
end Go.Proofs.YtnpmeolibdjgpaaGreatDoor
