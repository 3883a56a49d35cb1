/-
  The words of all rounds: the code's array.
-/
import Derived.Test.YtokddfbjjghpkaaDoorWordRows
import Derived.Test.YtokddfbjjghpkaaDoorRowOps
import Derived.StillTailTactics
import Derived.Deep.RegionWith
import Derived.Deep.DeepCutAuto
import Derived.Outline
namespace Go.Proofs.YtokddfbjjghpkaaDoor
open Go.RowKit

def byteCells' (p : Nat → UInt8) (n : Nat) : List Value := (List.range n).map fun t => .int .u8 ((p t).toNat : Int)

/-- The array of the words so far. -/
def arrW (l : List Nat) : Array Value := (wordCells (l ++ List.replicate (80 - l.length) 0)).toArray
theorem arrW_size {l : List Nat} (h : l.length ≤ 80) : (arrW l).size = 80 := by unfold arrW wordCells; simp; omega
theorem arrW_get {l : List Nat} (h : l.length ≤ 80) {i : Nat} (hi : i < 80) : (arrW l)[i]? = some (.int .u32 ((l.getD i 0 : Nat) : Int)) := by
  unfold arrW wordCells
  rw [List.getElem?_toArray, List.getElem?_map]
  by_cases hl : i < l.length
  · rw [List.getElem?_append_left hl, List.getD_eq_getElem?_getD, List.getElem?_eq_getElem hl]; rfl
  · rw [List.getElem?_append_right (by omega), List.getElem?_replicate, if_pos (by omega), List.getD_eq_getElem?_getD, List.getElem?_eq_none (by omega)]; rfl
theorem arrW_set {l : List Nat} (h : l.length < 80) (x : Nat) : (arrW l).setIfInBounds l.length (.int .u32 (x : Int)) = arrW (l ++ [x]) := by
  have e : List.replicate (80 - l.length) 0 = 0 :: List.replicate (80 - (l ++ [x]).length) 0 := by
    rw [List.length_append, List.length_singleton, show 80 - l.length = (80 - (l.length + 1)) + 1 by omega]; rfl
  unfold arrW wordCells
  rw [e, List.setIfInBounds_toArray]
  simp
theorem arrW_full {l : List Nat} (h : l.length = 80) : arrW l = (wordCells l).toArray := by unfold arrW; rw [h]; simp
theorem arrW_nil : arrW [] = (List.replicate 80 (Value.int .u32 0)).toArray := by unfold arrW wordCells; simp
theorem bytes_get (p : Nat → UInt8) {i n : Nat} (hi : i < n) : (byteCells' p n).toArray[i]? = some (.int .u8 ((p i).toNat : Int)) := by
  unfold byteCells'
  rw [List.getElem?_toArray, List.getElem?_map, List.getElem?_range hi]; rfl

theorem store_word {w : World} {g j : Nat} {t : TypeId} {l : List Nat} {x : Nat} {V : Int} (h : Blk w g t (arrW l)) (hl : l.length = j) (hj : j < 80) (hV : V = ((x : Nat) : Int)) :
    Blk (w.drew.setCell ⟨g, j, none⟩ (.int .u32 V)) g t (arrW (l ++ [x])) := by
  subst hl
  rw [hV, ← arrW_set hj x]
  exact h.drew.put _ _
theorem below_set {w w' : World} {B : Nat} (h : Below B w w') (p : Addr) (hp : B ≤ p.block) (v : Value) : Below B w (w'.setCell p v) := h.setCell hp v
theorem next_first {p : Nat → UInt8} {j i0 i1 i2 i3 : Nat} {l : List Nat} (h : j < 16) (h0 : i0 = 4 * j) (h1 : i1 = i0 + 1) (h2 : i2 = i0 + 2) (h3 : i3 = i0 + 3) :
    ((((((p i0).toNat <<< 24 ||| (p i1).toNat <<< 16) ||| (p i2).toNat <<< 8) ||| (p i3).toNat : Nat)) : Int) = ((nextW p l j : Nat) : Int) := by
  subst h1; subst h2; subst h3; subst h0
  unfold nextW
  rw [if_pos h]
  rfl

theorem next_later {p : Nat → UInt8} {j i0 i1 i2 i3 : Nat} {l : List Nat} (h : ¬ j < 16) (h0 : i0 = j - 3) (h1 : i1 = j - 8) (h2 : i2 = j - 14) (h3 : i3 = j - 16) :
    nextW p l j = rotl (l.getD i0 0 ^^^ l.getD i1 0 ^^^ l.getD i2 0 ^^^ l.getD i3 0) 1 := by
  subst h0; subst h1; subst h2; subst h3
  unfold nextW
  rw [if_neg h]
theorem xor4 {a b c d : Nat} (ha : a < 4294967296) (hb : b < 4294967296) (hc : c < 4294967296) (hd : d < 4294967296) :
    bits .xor .u32 (bits .xor .u32 (bits .xor .u32 (a : Int) (b : Int)) (c : Int)) (d : Int) = ((a ^^^ b ^^^ c ^^^ d : Nat) : Int) := by
  rw [u32_xor_nat a b ha hb, u32_xor_nat _ c (Nat.xor_lt_two_pow (n := 32) ha hb) hc, u32_xor_nat _ d (Nat.xor_lt_two_pow (n := 32) (Nat.xor_lt_two_pow (n := 32) ha hb) hc) hd]
theorem rot_still (x n : Nat) (w : World) (hx : x < 4294967296) (hn : n = 1 ∨ n = 5 ∨ n = 30) :
    Calls Tryd.prog 54 #[.int .u32 x, .int .i64 n] w fun e w' => e = .returned (.int .u32 (rotl x n)) ∧ w' = w := (rot_any x n w hx hn).mono fun _ _ h => ⟨h.1, h.2.symm⟩

set_option maxRecDepth 100000 in
set_option maxHeartbeats 1000000 in
theorem words_any (p : Nat → UInt8) (w : World) :
    Calls Tryd.prog 52 #[.agg (byteCells' p 64).toArray] w fun e w' => e = .returned (.agg (wordCells (wordsB p 80)).toArray) ∧ Below w.heap.size w w' := by
  obtain ⟨PC, hPC⟩ : ∃ PC, PC = (byteCells' p 64).toArray := ⟨_, rfl⟩
  have HPC := Lib.hid hPC
  rw [← hPC]
  clear hPC
  have hz : ∀ w, (zeroValue 102).run Tryd.prog w = .ok (.agg (arrW [])) w := fun w => by rw [arrW_nil]; kernel_rfl
  obtain ⟨Z, hZ⟩ : ∃ Z, Z = arrW [] := ⟨_, rfl⟩
  rw [← hZ] at hz
  have HZ := Lib.hid hZ
  clear hZ
  go_enter Tryd.func52, Tryd.ntmps52
  go_wp2_with fail
  have b1 : Blk (((w.alloc (.cells PC 53)).alloc (.cells Z 102)).alloc (.cells Z 102)) w.heap.size 53 PC := ((Blk.new w _ PC).alloc _).alloc _
  have b2 : Blk (((w.alloc (.cells PC 53)).alloc (.cells Z 102)).alloc (.cells Z 102)) (w.heap.size + 1) 102 Z := by
    have := (Blk.new (w.alloc (.cells PC 53)) 102 Z).alloc (.cells Z 102)
    simpa using this
  have b3 : Blk (((w.alloc (.cells PC 53)).alloc (.cells Z 102)).alloc (.cells Z 102)) (w.heap.size + 1 + 1) 102 Z := by
    have := Blk.new ((w.alloc (.cells PC 53)).alloc (.cells Z 102)) 102 Z
    simpa using this
  have hb : Below w.heap.size w (((w.alloc (.cells PC 53)).alloc (.cells Z 102)).alloc (.cells Z 102)) := (((Below.refl _ _).alloc (Nat.le_refl _) _).alloc (by simp) _).alloc (by simp; omega) _
  clear hz
  go_loopw [5] (fun i wr => ∃ j : Nat, j ≤ 80 ∧ i = .int .i64 j ∧ Blk wr w.heap.size 53 PC ∧ Blk wr (w.heap.size + 1) 102 Z ∧ Blk wr (w.heap.size + 1 + 1) 102 (arrW (wordsB p j)) ∧ Below w.heap.size w wr) (fun i _ => 80 - (intOf i).toNat)
  case atStart => exact ⟨0, by omega, rfl, b1, b2, (congrArg (Blk _ _ _) HZ.out).mp b3, hb⟩
  case round =>
    clear b1 b2 b3 hb
    obtain ⟨j, hj, rfl, b1, b2, b3, hb⟩ := hrel
    have HB1 := Lib.hid b1
    have HB2 := Lib.hid b2
    have HB3 := Lib.hid b3
    have HB := Lib.hid hb
    clear b1 b2 b3 hb
    by_cases hlt : j < 80
    · by_cases h16 : j < 16
      · obtain ⟨i0, hi0⟩ : ∃ i : Nat, i = 4 * j := ⟨_, rfl⟩
        have w0 : IntKind.i64.wrap (4 * (j : Int)) = (i0 : Int) := by rw [hi0, IntWalk.i64_in _ (by omega)]; omega
        obtain ⟨i1, hi1⟩ : ∃ i : Nat, i = i0 + 1 := ⟨_, rfl⟩
        have w1 : IntKind.i64.wrap ((i0 : Int) + 1) = (i1 : Int) := by rw [IntWalk.i64_in _ (by omega)]; omega
        obtain ⟨i2, hi2⟩ : ∃ i : Nat, i = i0 + 2 := ⟨_, rfl⟩
        have w2 : IntKind.i64.wrap ((i0 : Int) + 2) = (i2 : Int) := by rw [IntWalk.i64_in _ (by omega)]; omega
        obtain ⟨i3, hi3⟩ : ∃ i : Nat, i = i0 + 3 := ⟨_, rfl⟩
        have w3 : IntKind.i64.wrap ((i0 : Int) + 3) = (i3 : Int) := by rw [IntWalk.i64_in _ (by omega)]; omega
        have l0 : (i0 : Int) < 64 := by omega
        have l1 : (i1 : Int) < 64 := by omega
        have l2 : (i2 : Int) < 64 := by omega
        have l3 : (i3 : Int) < 64 := by omega
        have c0 : wr.cell? ⟨w.heap.size, i0, none⟩ = some (.int .u8 ((p i0).toNat : Int)) := by rw [HB1.out.cell, HPC.out]; exact bytes_get p (by omega)
        have c1 : wr.cell? ⟨w.heap.size, i1, none⟩ = some (.int .u8 ((p i1).toNat : Int)) := by rw [HB1.out.cell, HPC.out]; exact bytes_get p (by omega)
        have c2 : wr.cell? ⟨w.heap.size, i2, none⟩ = some (.int .u8 ((p i2).toNat : Int)) := by rw [HB1.out.cell, HPC.out]; exact bytes_get p (by omega)
        have c3 : wr.cell? ⟨w.heap.size, i3, none⟩ = some (.int .u8 ((p i3).toNat : Int)) := by rw [HB1.out.cell, HPC.out]; exact bytes_get p (by omega)
        have HI := Lib.hid (And.intro hi0 (And.intro hi1 (And.intro hi2 hi3)))
        clear hi0 hi1 hi2 hi3
        go_wp2_with fail
        have c4 : wr.cell? ⟨w.heap.size + 1 + 1, j, none⟩ = some (.int .u32 (((wordsB p j).getD j 0 : Nat) : Int)) := by rw [HB3.out.cell]; exact arrW_get (by rw [wordsB_length]; omega) (by omega)
        have f4 := HB3.out.frozen j
        have l4 : (j : Int) < 80 := by omega
        go_still_tail 31, (by kernel_rfl)
        change wpList _ _ _ _ _ wr.drew
        go_wp2_with fail
        go_roundw
        case rel =>
          have H3 := store_word HB3.out (wordsB_length p j) hlt ((word_cast (p i0) (p i1) (p i2) (p i3)).trans (next_first (l := wordsB p j) h16 HI.out.1 HI.out.2.1 HI.out.2.2.1 HI.out.2.2.2))
          exact ⟨j + 1, by omega, by go_num, HB1.out.drew.far (by simp; omega) _, HB2.out.drew.far (by simp) _, H3, HB.out.drew.setCell (by simp; omega) _⟩
        case measure => simp [intOf]; omega
      · obtain ⟨i0, hi0⟩ : ∃ i : Nat, i = j - 3 := ⟨_, rfl⟩
        have w0 : IntKind.i64.wrap ((j : Int) - 3) = (i0 : Int) := by rw [IntWalk.i64_in _ (by omega)]; omega
        obtain ⟨i1, hi1⟩ : ∃ i : Nat, i = j - 8 := ⟨_, rfl⟩
        have w1 : IntKind.i64.wrap ((j : Int) - 8) = (i1 : Int) := by rw [IntWalk.i64_in _ (by omega)]; omega
        obtain ⟨i2, hi2⟩ : ∃ i : Nat, i = j - 14 := ⟨_, rfl⟩
        have w2 : IntKind.i64.wrap ((j : Int) - 14) = (i2 : Int) := by rw [IntWalk.i64_in _ (by omega)]; omega
        obtain ⟨i3, hi3⟩ : ∃ i : Nat, i = j - 16 := ⟨_, rfl⟩
        have w3 : IntKind.i64.wrap ((j : Int) - 16) = (i3 : Int) := by rw [IntWalk.i64_in _ (by omega)]; omega
        have l0 : (i0 : Int) < 80 := by omega
        have l1 : (i1 : Int) < 80 := by omega
        have l2 : (i2 : Int) < 80 := by omega
        have l3 : (i3 : Int) < 80 := by omega
        have l4 : (j : Int) < 80 := by omega
        have hlen : (wordsB p j).length ≤ 80 := by rw [wordsB_length]; omega
        have HN := Lib.hid (next_later (p := p) (l := wordsB p j) h16 hi0 hi1 hi2 hi3)
        have HE := Lib.hid (wordsB_next p j)
        have HL := Lib.hid (wordsB_length p j)
        have g := fun i => getD_lt (wordsB_lt p j) (by decide) i
        obtain ⟨l, hl⟩ : ∃ l, l = wordsB p j := ⟨_, rfl⟩
        rw [← hl] at HN HE HB3 hlen g HL
        clear hl
        have c0 : wr.cell? ⟨w.heap.size + 1 + 1, i0, none⟩ = some (.int .u32 ((l.getD i0 0 : Nat) : Int)) := by rw [HB3.out.cell]; exact arrW_get hlen (by omega)
        have c1 : wr.cell? ⟨w.heap.size + 1 + 1, i1, none⟩ = some (.int .u32 ((l.getD i1 0 : Nat) : Int)) := by rw [HB3.out.cell]; exact arrW_get hlen (by omega)
        have c2 : wr.cell? ⟨w.heap.size + 1 + 1, i2, none⟩ = some (.int .u32 ((l.getD i2 0 : Nat) : Int)) := by rw [HB3.out.cell]; exact arrW_get hlen (by omega)
        have c3 : wr.cell? ⟨w.heap.size + 1 + 1, i3, none⟩ = some (.int .u32 ((l.getD i3 0 : Nat) : Int)) := by rw [HB3.out.cell]; exact arrW_get hlen (by omega)
        have c4 : wr.cell? ⟨w.heap.size + 1 + 1, j, none⟩ = some (.int .u32 ((l.getD j 0 : Nat) : Int)) := by rw [HB3.out.cell]; exact arrW_get hlen (by omega)
        have f4 := HB3.out.frozen j
        have HX := Lib.hid (xor4 (g i0) (g i1) (g i2) (g i3))
        have HXL : Hid (_ < 4294967296) := Lib.hid (Nat.xor_lt_two_pow (n := 32) (Nat.xor_lt_two_pow (n := 32) (Nat.xor_lt_two_pow (n := 32) (g i0) (g i1)) (g i2)) (g i3))
        clear hi0 hi1 hi2 hi3 hlen g
        generalize l.getD i0 0 = y0 at *
        generalize l.getD i1 0 = y1 at *
        generalize l.getD i2 0 = y2 at *
        generalize l.getD i3 0 = y3 at *
        obtain ⟨Y, hY⟩ : ∃ Y, Y = y0 ^^^ y1 ^^^ y2 ^^^ y3 := ⟨_, rfl⟩
        rw [← hY] at HX HXL HN
        clear hY
        go_wp2_with fail
        go_still_tail 22, (by kernel_rfl)
        rw [HX.out]
        still_call (rot_still Y 1 wr.drew HXL.out (Or.inl rfl))
        repeat still_step
        refine wpStill_nil ?_
        change wpList _ _ _ _ _ wr.drew
        go_wp2_with fail
        go_roundw
        case rel =>
          have H3 : Blk (wr.drew.setCell ⟨w.heap.size + 1 + 1, j, none⟩ (.int .u32 ((rotl Y 1 : Nat) : Int))) (w.heap.size + 1 + 1) 102 (arrW (wordsB p (j + 1))) := by
            rw [HE.out, HN.out]
            exact store_word HB3.out HL.out hlt rfl
          exact ⟨j + 1, by omega, by go_num, HB1.out.drew.far (by simp; omega) _, HB2.out.drew.far (by simp) _, H3, HB.out.drew.setCell (by simp; omega) _⟩
        case measure => simp [intOf]; omega
    · obtain rfl : j = 80 := by omega
      have hs : ∀ w, (sizeOf 102).run Tryd.prog w = .ok (wordCells (wordsB p 80)).toArray.size w := fun w => by
        rw [show (wordCells (wordsB p 80)).toArray.size = 80 by unfold wordCells; simp [wordsB_length]]
        kernel_rfl
      have ha : ∀ w, (isAgg 102).run Tryd.prog w = .ok true w := fun w => by kernel_rfl
      have hW : Blk wr (w.heap.size + 1 + 1) 102 (wordCells (wordsB p 80)).toArray := by rw [← arrW_full (wordsB_length p 80)]; exact HB3.out
      have hz : Z.size = 80 := by rw [HZ.out]; exact arrW_size (by simp)
      have hc : (wordCells (wordsB p 80)).toArray.size = 80 := by unfold wordCells; simp [wordsB_length]
      have h1 : (wordCells (wordsB p 80)).toArray.all (·.oneCell') = true := by unfold wordCells; simp [Value.oneCell']
      obtain ⟨RC, hRC⟩ : ∃ RC, RC = (wordCells (wordsB p 80)).toArray := ⟨_, rfl⟩
      rw [← hRC] at hs hW hc h1
      have HRC := Lib.hid hRC
      clear hRC
      have HL := Lib.hid (run_load_part (P := Tryd.prog) (off := 0) hW (fun j v h => by rw [Nat.zero_add]; exact h) ha hs)
      have HS := Lib.hid (run_store_part (P := Tryd.prog) (off := 0) HB2.out (by omega) h1 hs)
      have HE : Hid ((Z.toList.take 0 ++ RC.toList ++ Z.toList.drop (0 + RC.size)).toArray = RC) := Lib.hid (by
        rw [List.drop_of_length_le (by rw [Array.length_toList]; omega)]
        simp)
      rw [HE.out] at HS
      have HR := Lib.hid (run_var_part (P := Tryd.prog) (off := 0) (blk_setRow HB2.out RC) (fun j v h => by rw [Nat.zero_add]; exact h) ha hs)
      clear hs ha hW hz hc h1
      go_upto_region 9 with fail
      refine wp_region_lit ?_
      refine wpList_load rfl rfl rfl HL.out ?_
      refine wpList_store rfl rfl rfl rfl HS.out ?_
      clear HL HS
      go_wp2_with fail
      refine ret_cell rfl rfl HR.out rfl ⟨by rw [HRC.out], ?_⟩
      exact below_setRow HB.out (by omega) _
end Go.Proofs.YtokddfbjjghpkaaDoor
