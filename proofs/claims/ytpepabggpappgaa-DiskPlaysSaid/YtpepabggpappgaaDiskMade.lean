/-
  A new disk, and a sector of some bytes. No statement is proved here.
-/
import Derived.Test.YtpepabggpappgaaDiskNew
namespace Go.Proofs.Ytpepabggpappgaa
open Go.RowKit

theorem repeat_zero (c : Nat) : Lib.repeatL [0] c = List.replicate c 0 := by
  induction c with
  | zero => rfl
  | succ c ih => show [0] ++ Lib.repeatL [0] c = _; rw [ih]; rfl
set_option maxRecDepth 100000 in
set_option maxHeartbeats 1000000 in
theorem dnew_no (n : Int) (w : World) (h : n < 140 ∨ 2000 < n) :
    Calls Try.prog 6 #[.int .i64 n] w fun e w' => e = .returned (.tuple #[.pointer none, .int .i64 1]) ∧ w = w' := by
  by_cases h1 : n < 140
  · go_enter Try.func6, Try.ntmps6
    go_wp2_with fail
    go_ret2
    exact ⟨rfl, rfl⟩
  · have h2 : 2000 < n := by omega
    go_enter Try.func6, Try.ntmps6
    go_wp2_with fail
    go_ret2
    exact ⟨rfl, rfl⟩

set_option maxRecDepth 100000 in
set_option maxHeartbeats 2000000 in
theorem dnew_yes (q : Int) (n : Nat) (w : World) (hq : q = (n : Int)) (h1 : 140 ≤ q) (h2 : q ≤ 2000) :
    Calls Try.prog 6 #[.int .i64 q] w fun e w' => ∃ g O, e = .returned (.tuple #[.pointer (some ⟨g, 0, none⟩), .int .i64 0]) ∧ DiskAt w' O g (DS.fresh n (zeroB 256)) ∧ (∀ b ∈ O, w.heap.size ≤ b) ∧ Below w.heap.size w w' := by
  have HS := Lib.hid (repeat_any ⟨#[0]⟩ 256 w (by omega) (by decide))
  rw [show (⟨(Lib.repeatL (⟨#[0]⟩ : ByteArray).data.toList 256).toArray⟩ : ByteArray) = zeroB 256 by show (⟨(Lib.repeatL [0] 256).toArray⟩ : ByteArray) = _; rw [repeat_zero]; rfl] at HS
  have HQ := Lib.hid hq
  have HR : Hid (∀ (W : World) (g0 : Nat), W.cell? ⟨g0, 0, none⟩ = some (.string (zeroB 256)) → Calls Try.prog 22 #[.slice (some ⟨g0, 0, none⟩) 1 1, .int .i64 q] W fun e w' => e = .returned (.slice (some ⟨W.heap.size, 0, none⟩) n n) ∧ Blk w' W.heap.size 9 ((List.replicate n (zeroB 256)).map Value.string).toArray ∧ Below W.heap.size W w') :=
    Lib.hid (fun W g0 hW => by rw [hq]; exact srep_any (zeroB 256) n g0 W (by omega) (by omega) hW)
  have HC : Hid (∀ (W : World) (g0 : Nat), Blk W g0 9 ((List.replicate n (zeroB 256)).map Value.string).toArray → Calls Try.prog 23 #[.slice (some ⟨g0, 0, none⟩) n n] W fun e w' => ∃ v, e = .returned v ∧ w'.ownsRow W.heap.size 9 1 v n ((List.replicate n (zeroB 256)).map Value.string) ∧ Below W.heap.size W w') :=
    Lib.hid (fun W g0 hW => cltexts_any _ n n (List.replicate n (zeroB 256)) W (by simp) (by
      intro ad e j u hu
      injection e with e
      subst e
      rw [Go.WideShapes.add_plain, Nat.zero_add, hW.cell, List.getElem?_toArray]
      exact hu) (by intro e; cases e) (by omega))
  have HNB : Hid (1 ≤ n ∧ n ≤ 2000) := Lib.hid (by omega)
  obtain ⟨z, hz⟩ : ∃ z, z = zeroB 256 := ⟨_, rfl⟩
  rw [← hz] at HS HR HC ⊢
  clear hq hz
  go_enter Try.func6, Try.ntmps6
  go_wp2_with (go_at_call 21; refine HS.out.mono ?_; rintro e w1 ⟨rfl, hb1⟩)
  refine (HR.out (w1.alloc (.cells #[.string z] 9)) w1.heap.size (by rw [(Blk.new w1 9 #[.string z]).cell 0]; rfl)).mono ?_
  rintro e w2 ⟨rfl, hk2, hb2⟩
  have hs1 : (w1.alloc (.cells #[.string z] 9)).heap.size = w1.heap.size + 1 := by simp
  have hc2 : Below w.heap.size w w2 := (hb1.alloc hb1.size _).trans (hb2.mono (by have := hb1.size; omega))
  rw [hs1] at hk2 ⊢
  have hs2 : w1.heap.size + 1 < w2.heap.size := hk2.lt
  have hs0 : w.heap.size ≤ w1.heap.size := hb1.size
  clear hb1 hb2 hs1
  go_wp2_with fail
  refine (HC.out w2 (w1.heap.size + 1) hk2).mono ?_
  rintro e w3 ⟨v, rfl, hrow, hb3⟩
  obtain ⟨p, c, rfl, hnc, hcc, hpn, hpa⟩ := row_slice hrow
  have hc3 : Below w.heap.size w w3 := hc2.trans (hb3.mono hc2.size)
  have hk3 : Blk w3 (w1.heap.size + 1) 9 _ := hk2.below hb3 hs2
  have HROW := Lib.hid hrow
  have HK3 := Lib.hid hk3
  have HC3 := Lib.hid hc3
  have HB3 := Lib.hid hb3.size
  have HP := Lib.hid (And.intro hpn hpa)
  clear hrow hk3 hc3 hk2 hc2 hb3 hpn hpa hnc hcc
  go_wp2_with fail
  go_ret2
  have hpo : ∃ gs, p = some ⟨gs, 0, none⟩ := by
    cases hp : p with
    | none => have := HP.out.1 hp; have := HNB.out; omega
    | some a => exact ⟨a.block, by rw [HP.out.2 a hp]⟩
  obtain ⟨gs, rfl⟩ := hpo
  have hgs := HROW.out.lt gs rfl
  have hsz3 := HB3.out
  refine ⟨_, w3.heap.size :: (w1.heap.size + 1) :: gs :: ((Value.slice none 0 0).ownBlock.toList ++ (Value.slice none 0 0).ownBlock.toList), rfl, ⟨w1.heap.size + 1, gs, n, c, _, _, rfl, ?_⟩, ?_, HC3.out.alloc HC3.out.size _⟩
  · have e1 : (List.replicate n z).length = n := by simp
    refine ⟨?_, ?_, ?_, World.ownsRow_nil _ _ _ _, World.ownsRow_nil _ _ _ _, ?_⟩
    · have := Blk.new w3 55 #[.slice (some ⟨w1.heap.size + 1, 0, none⟩) n n, .slice (some ⟨gs, 0, none⟩) n c, .slice none 0 0, .bool true, .int .i64 0, .bool false, .int .i64 0, .slice none 0 0]
      show Blk _ _ _ #[.slice _ (List.replicate n z).length _, .slice _ (List.replicate n z).length _, _, _, _, _, _, _]
      rw [e1]
      exact this
    · show World.ownsRow _ 0 _ 1 (.slice _ (List.replicate n z).length _) (List.replicate n z).length ((List.replicate n z).map Value.string)
      rw [e1]
      refine World.ownsRow.alloc ⟨by simp, .inr ⟨w1.heap.size + 1, n, _, rfl, Nat.zero_le _, HK3.out, Nat.le_refl _, by have := HNB.out; unfold maxLen; omega, by simp, by simp⟩⟩ _
    · show World.ownsRow _ 0 _ 1 (.slice _ (List.replicate n z).length _) (List.replicate n z).length ((List.replicate n z).map Value.string)
      rw [e1]
      exact (row_mono HROW.out (Nat.zero_le _)).alloc _
    · simp [Value.ownBlock]
      omega
  · intro b hb
    simp [Value.ownBlock] at hb
    rcases hb with rfl | rfl | rfl
    · omega
    · omega
    · omega

/-- The byte at i of a sector that s fills. -/
def fillAt (s : ByteArray) (i : Nat) : UInt8 := if 0 < s.size then s.data.toList.getD (i % s.size) 0 else 0
def fillB (s : ByteArray) : ByteArray := ⟨((List.range 256).map (fillAt s)).toArray⟩
theorem fillB_size (s : ByteArray) : (fillB s).size = 256 := by show ((List.range 256).map (fillAt s)).toArray.size = 256; simp
/-- .. filled up to k. -/
def fillL (s : ByteArray) (k : Nat) : List UInt8 := (List.range 256).map fun i => if i < k then fillAt s i else 0
theorem fillL_zero (s : ByteArray) : fillL s 0 = List.replicate 256 0 := by
  unfold fillL
  rw [show (fun i => if i < 0 then fillAt s i else 0) = fun _ => (0 : UInt8) from funext fun i => if_neg (by omega), List.map_const', List.length_range]
theorem fillL_all (s : ByteArray) : fillL s 256 = (fillB s).data.toList := by
  show _ = (List.range 256).map (fillAt s)
  unfold fillL
  apply List.map_congr_left
  intro i hi
  rw [if_pos (by simpa using hi)]
theorem fillL_len (s : ByteArray) (k : Nat) : (fillL s k).length = 256 := by unfold fillL; simp
theorem fillL_next (s : ByteArray) {k : Nat} (hk : k < 256) : (Lib.byteCells (fillL s k)).toArray.setIfInBounds k (.int .u8 ((fillAt s k).toNat : Int)) = (Lib.byteCells (fillL s (k + 1))).toArray := by
  rw [List.setIfInBounds_toArray]
  congr 1
  apply List.ext_getElem?
  intro i
  unfold Lib.byteCells fillL
  rw [List.getElem?_set]
  simp only [List.length_map, List.length_range, List.getElem?_map]
  by_cases hik : k = i
  · subst hik
    simp [hk]
  · simp only [if_neg hik]
    by_cases hi : i < 256
    · simp only [List.getElem?_range hi, Option.map_some]
      by_cases h1 : i < k
      · rw [if_pos h1, if_pos (by omega)]
      · rw [if_neg h1, if_neg (by omega)]
    · rw [List.getElem?_eq_none (by simpa using hi)]
      rfl
theorem fillL_same (s : ByteArray) (k : Nat) (h : s.size = 0) : fillL s (k + 1) = fillL s k := by
  unfold fillL
  apply List.map_congr_left
  intro i _
  have h0 : fillAt s i = 0 := by unfold fillAt; rw [if_neg (by omega)]
  rw [h0]
  split <;> split <;> rfl
theorem blk_text (w : World) (g : Nat) (l : List UInt8) (n : Nat) (hn : l.length = n) (h : Blk w g 5 (Lib.byteCells l).toArray) :
    (convert 67 9 (.slice (some ⟨g, 0, none⟩) n n)).run Try.prog w = .ok (.string ⟨l.toArray⟩) w := by
  have hr := run_convert_bytes_back (P := Try.prog) w 67 9 5 ⟨g, 0, none⟩ l.length l Try.underlying67 Try.underlying5 Try.underlying9
    (fun j hj => by
      rw [Go.WideShapes.add_plain, h.cell (0 + j)]
      simp [Lib.byteCells, hj])
  rw [hn] at hr
  exact hr

set_option maxRecDepth 100000 in
set_option maxHeartbeats 2000000 in
theorem fill_any (s : ByteArray) (w : World) (hs : s.size ≤ 140737488351232) :
    Calls Try.prog 13 #[.string s] w fun e w' => e = .returned (.string (fillB s)) ∧ Below w.heap.size w w' := by
  have hmk := zeros_make w 256 (by omega)
  rw [zeroB_list, ← fillL_zero s] at hmk
  have hmk : (Instr.makeSlice 67 (.int .i64 256) (.int .i64 256)).run Try.prog w = .ok (.slice (some ⟨w.heap.size, 0, none⟩) 256 256) (w.alloc (.cells (Lib.byteCells (fillL s 0)).toArray 5)) := hmk
  obtain ⟨W, hW⟩ : ∃ W, W = w.alloc (.cells (Lib.byteCells (fillL s 0)).toArray 5) := ⟨_, rfl⟩
  rw [← hW] at hmk
  have HB0 : Hid (Blk W w.heap.size 5 (Lib.byteCells (fillL s 0)).toArray) := Lib.hid (by rw [hW]; exact Blk.new w _ _)
  have HK0 : Hid (Below w.heap.size w W) := Lib.hid (by rw [hW]; exact (Below.refl _ _).alloc (Nat.le_refl _) _)
  clear hW
  go_enter Try.func13, Try.ntmps13
  go_wp2_with fail
  clear hmk
  go_loopw [8] (fun i wr => ∃ k : Nat, k ≤ 256 ∧ i = .int .i64 k ∧ Blk wr w.heap.size 5 (Lib.byteCells (fillL s k)).toArray ∧ Below w.heap.size w wr) (fun i _ => 256 - (intOf i).toNat)
  case atStart => exact ⟨0, Nat.zero_le _, rfl, HB0.out, HK0.out⟩
  case round =>
    obtain ⟨k, hk, rfl, hb, hbe⟩ := hrel
    clear HB0 HK0
    have HB := Lib.hid hb
    by_cases hlt : k < 256
    · by_cases h0 : 0 < s.size
      · have hck : wr.cell? ⟨w.heap.size, k, none⟩ = some (.int .u8 (((fillL s k).getD k 0).toNat : Int)) := by
          rw [hb.cell, List.getElem?_toArray]
          unfold Lib.byteCells
          rw [List.getElem?_map, List.getD_eq_getElem?_getD, List.getElem?_eq_getElem (by rw [fillL_len]; exact hlt)]
          rfl
        have hfk := hb.frozen k
        have HN := Lib.hid (fillL_next s hlt)
        obtain ⟨r, hr⟩ : ∃ r, r = k % s.size := ⟨_, rfl⟩
        have hrs : r < s.size := by rw [hr]; exact Nat.mod_lt _ h0
        have hm1 : (k : Int).tmod (s.size : Int) = (r : Int) := by rw [hr]; exact (Int.ofNat_tmod k s.size).symm
        have hm2 : (k : Int) % (s.size : Int) = (r : Int) := by rw [hr]; exact (Int.natCast_emod k s.size).symm
        have HF : Hid (fillAt s k = s[r]'hrs) := Lib.hid (by
          unfold fillAt
          rw [if_pos h0, ← hr, List.getD_eq_getElem?_getD, List.getElem?_eq_getElem (by rw [← Lib.size_eq]; exact hrs)]
          rfl)
        have h0I : (0 : Int) < (s.size : Int) := by omega
        clear hb hr
        go_wp2_with fail
        go_roundw
        case rel =>
          have hp := HB.out.put k (.int .u8 ((s[r]'hrs).toNat : Int))
          rw [← HF.out, HN.out] at hp
          rw [← HF.out]
          exact ⟨k + 1, by omega, by go_num, hp, hbe.setCell (by simp) _⟩
        case measure => simp [intOf]; omega
      · have hs0 : s.size = 0 := by omega
        have HS := Lib.hid (fillL_same s k hs0)
        clear hb h0
        go_wp2_with fail
        go_roundw
        case rel => exact ⟨k + 1, by omega, by go_num, by rw [HS.out]; exact HB.out, hbe⟩
        case measure => simp [intOf]; omega
    · obtain rfl : k = 256 := by omega
      have hcv := blk_text wr w.heap.size _ 256 (fillL_len s 256) HB.out
      rw [fillL_all] at hcv
      clear hb
      go_wp2_with fail
      go_ret
      exact ⟨rfl, hbe⟩
end Go.Proofs.Ytpepabggpappgaa
