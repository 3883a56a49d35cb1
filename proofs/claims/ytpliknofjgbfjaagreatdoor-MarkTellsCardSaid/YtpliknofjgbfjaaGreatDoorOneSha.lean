/-
  SHA-1, the document's own.
-/
import Derived.Test.YtpliknofjgbfjaaGreatDoorOneRefPad
import Derived.Test.YtpliknofjgbfjaaGreatDoorOneText
import Derived.Test.YtpliknofjgbfjaaGreatDoorRegionApp
import Derived.Deep.DeepCutAuto
import Derived.Deep.RegionWith
import Derived.StillTailTactics
namespace Go.Proofs.YtpliknofjgbfjaaGreatDoor
open Go.RowKit

theorem wordB_part (M : ByteArray) (q j : Nat) (hj : j < 16) :
    wordB (fun t => (M.extract (64 * q + 4 * j) (64 * q + 4 * j + 4)).data.toList.getD t 0) 0 = nextW (blockB M.data.toList q) (wordsB (blockB M.data.toList q) j) j := by
  unfold nextW
  rw [if_pos hj, wordB_block]
/-- What the operations of a later word leave. -/
def shaV (b : Value) (g j y0 y1 y2 y3 : Nat) : Nat → Value
  | 0 | 1 | 6 | 12 | 18 => b
  | 2 | 7 | 13 | 19 => .int .i64 (j : Int)
  | 3 => .int .i64 ((j - 3 : Nat) : Int)
  | 8 => .int .i64 ((j - 8 : Nat) : Int)
  | 14 => .int .i64 ((j - 14 : Nat) : Int)
  | 20 => .int .i64 ((j - 16 : Nat) : Int)
  | 4 => .pointer (some ⟨g, j - 3, none⟩)
  | 9 => .pointer (some ⟨g, j - 8, none⟩)
  | 15 => .pointer (some ⟨g, j - 14, none⟩)
  | 21 => .pointer (some ⟨g, j - 16, none⟩)
  | 5 => .int .u32 (y0 : Int)
  | 10 => .int .u32 (y1 : Int)
  | 16 => .int .u32 (y2 : Int)
  | 22 => .int .u32 (y3 : Int)
  | 11 => .int .u32 ((y0 ^^^ y1 : Nat) : Int)
  | 17 => .int .u32 ((y0 ^^^ y1 ^^^ y2 : Nat) : Int)
  | 23 => .int .u32 ((y0 ^^^ y1 ^^^ y2 ^^^ y3 : Nat) : Int)
  | _ => .int .u32 ((rotl (y0 ^^^ y1 ^^^ y2 ^^^ y3) 1 : Nat) : Int)
set_option maxRecDepth 100000 in
set_option maxHeartbeats 40000000 in
theorem sha_any (s : ByteArray) (w : World) (hs : s.size ≤ 1000000) :
    Calls Tryz.prog 29 #[.string s] w fun e w' => e = .returned (.string ⟨(oneB s.data.toList).toArray⟩) ∧ Below w.heap.size w w' := by
  obtain ⟨i0, hi, hz0, hz1, hz2⟩ := info_parts u32_info
  obtain ⟨PB, hPB⟩ : ∃ PB : ByteArray, PB = ⟨(padB s.size).toArray⟩ := ⟨_, rfl⟩
  have hPs : PB.size = (padB s.size).length := by rw [hPB]; show (padB s.size).toArray.size = _; simp
  have hpw := padB_whole s.size
  have hpl : (padB s.size).length ≤ 72 := by have := zerosP_lt s.size; rw [padB_length]; omega
  rw [← hPs] at hpw hpl
  have HP : Hid (∀ w, Calls Tryz.prog 52 #[.int .i64 (s.size : Int)] w fun e w' => e = .returned (.string PB) ∧ Below w.heap.size w w') := Lib.hid (fun w => by rw [hPB]; exact refpad_any s.size w (by omega))
  obtain ⟨M, hM⟩ : ∃ M, M = s ++ PB := ⟨_, rfl⟩
  have hMs : M.size = s.size + PB.size := by rw [hM, ByteArray.size_append]
  have HMD : Hid (M.data.toList = s.data.toList ++ padB s.size) := Lib.hid (by rw [hM, hPB, ByteArray.data_append, Array.toList_append])
  obtain ⟨Q, hQ⟩ : ∃ Q, Q = M.size / 64 := ⟨_, rfl⟩
  have hMQ : M.size = 64 * Q := by omega
  have hcat : s ++ PB = M := hM.symm
  have hl1 : s.size + PB.size ≤ 9223372036854775807 := by omega
  have hQ1 : Q ≤ 100000 := by omega
  have HQ := Lib.hid hQ
  have HMQ := Lib.hid hMQ
  clear hPB hPs hpw hM hQ hMs hMQ
  go_enter Tryz.func29, Tryz.ntmps29
  go_wp2_with (go_at_call 52; refine (HP.out _).mono ?_; rintro e w1 ⟨rfl, hb1⟩)
  have hB0 : Blk w1 w.heap.size 66 (stCells St.init) := (Blk.new w _ _).below hb1 (by simp)
  have hbw : Below w.heap.size w w1 := ((Below.refl _ _).alloc (Nat.le_refl _) _).trans (hb1.mono (by simp))
  have HK0 := Lib.hid (show KeepH w w1 w.heap.size (stCells (hashB M.data.toList 0)) from ⟨hB0, Nat.le_refl _, hbw⟩)
  clear hb1 hB0 hbw
  go_wp2_with fail
  clear hcat hl1
  go_loopw [3, 4] (fun v a wr => ∃ q g : Nat, q ≤ Q ∧ (∃ A : Nat, A = 64 * q ∧ a = .int .i64 (A : Int)) ∧ v = .slice (some ⟨g, 0, none⟩) 5 5 ∧ KeepH w wr g (stCells (hashB M.data.toList q))) (fun _ a _ => 64 * Q - (intOf a).toNat)
  case atStart => exact ⟨0, w.heap.size, by omega, ⟨0, rfl, rfl⟩, rfl, HK0.out⟩
  case round =>
    clear HK0
    obtain ⟨q, g, hq, ⟨A, hA, rfl⟩, rfl, hk⟩ := hrel
    have HK := Lib.hid hk
    have HA := Lib.hid hA
    have hA1 : A ≤ 6400000 := by omega
    clear hk
    by_cases hlt : q < Q
    · have hAM : A + 64 ≤ M.size := by have := HMQ.out; omega
      have hAMI : (A : Int) < (M.size : Int) := by omega
      clear hA
      go_wp2_with fail
      obtain ⟨H, hH⟩ : ∃ H, H = stCells (hashB M.data.toList q) := ⟨_, rfl⟩
      rw [← hH] at HK
      have HH := Lib.hid hH
      clear hH
      go_loopw [5, 6] (fun v i w2 => ∃ j : Nat, j ≤ 80 ∧ i = .int .i64 (j : Int) ∧ w2.ownsRow w.heap.size 66 1 v j (wordCells (wordsB (blockB M.data.toList q) j)) ∧ some g ≠ v.ownBlock ∧ KeepH w w2 g H) (fun _ i _ => 80 - (intOf i).toNat)
      case atStart => exact ⟨0, by omega, rfl, World.ownsRow_nil _ _ _ _, by simp [Value.ownBlock], HK.out⟩
      case round =>
        obtain ⟨j, hj, rfl, hown, hne, hk2⟩ := hrel
        have HOWN := Lib.hid hown
        have HNE := Lib.hid hne
        have HK2 := Lib.hid hk2
        clear hown hne hk2
        by_cases hj80 : j < 80
        · by_cases hj16 : j < 16
          · have HL : Hid ((wordCells (wordsB (blockB M.data.toList q) j)).length = j) := Lib.hid (by unfold wordCells; simp [wordsB_length])
            obtain ⟨c, hc⟩ : ∃ c : Nat, c = A + 4 * j := ⟨_, rfl⟩
            have hcI : (A : Int) + 4 * (j : Int) = (c : Int) := by omega
            have hc1 : c + 4 ≤ M.size := by omega
            obtain ⟨X, hX⟩ : ∃ X, X = M.extract c (c + 4) := ⟨_, rfl⟩
            have hex : M.extract c (c + 4) = X := hX.symm
            have hXs : X.size = 4 := by rw [hX, ByteArray.size_extract]; omega
            obtain ⟨y, hy⟩ : ∃ y, y = nextW (blockB M.data.toList q) (wordsB (blockB M.data.toList q) j) j := ⟨_, rfl⟩
            have HW : Hid (∀ w3, Calls Tryz.prog 53 #[.string X] w3 fun e w' => e = .returned (.int .u32 (y : Int)) ∧ ∃ d, w' = w3.drewN d) := Lib.hid (fun w3 => by
              have := word_any X w3 hXs
              rw [hX, hc, HA.out, wordB_part M q j hj16] at this
              rw [hy, hX, hc, HA.out]
              exact this)
            have HE : Hid (wordCells (wordsB (blockB M.data.toList q) (j + 1)) = wordCells (wordsB (blockB M.data.toList q) j) ++ [.int .u32 (y : Int)]) := Lib.hid (by rw [wordsB_next, ← hy]; unfold wordCells; simp)
            obtain ⟨WL, hWL⟩ : ∃ WL, WL = wordCells (wordsB (blockB M.data.toList q) j) := ⟨_, rfl⟩
            rw [← hWL] at HE HOWN HL
            have hsl := slice_text wr M X c hc1 hex
            clear hc hX hXs hy hWL
            go_wp2_with (first | (go_at_call 53; refine (HW.out _).mono ?_; rintro e w3 ⟨rfl, d, rfl⟩) | (at_builtin; refine wpList_append_lies _ rfl (.tmp 36) (.tmp 49) 77 rfl w.heap.size 66 i0 (.int .u32 0) 1 4 Tryz.underlying77 hi hz0 hz1 hz2 rfl (by omega) _ j _ rfl ((show (wr.drewN d).ownsRow _ _ _ _ _ _ from HOWN.out).alloc _) ⟨wr.heap.size, 0, none⟩ 1 1 [.int .u32 (y : Int)] rfl rfl ?c1 ?c2 (by omega) (by unfold maxLen; omega) (by omega) (by have := HK2.out.2.2.size; simp; omega) _ rfl ?_))
            case c1 =>
              intro a u ha
              match a, ha with
              | 0, ha => simp at ha; subst ha; simp [Addr.add]; exact (Blk.new (wr.drewN d) 66 #[.int .u32 (y : Int)]).cell 0
            case c2 => intro u hu; simp at hu; subst hu; rfl
            intro g2 cap w4 hown1 hg1 hor hlt1
            have HK4 := Lib.hid (KeepH.row (KeepH.new HK2.out ((by_drewN (by_refl _ _) d : wr.grownBy (wr.drewN d) none))|>.new (by_alloc (by_refl _ _) _)) hg1 (fun k hk => (HOWN.out.lt k hk).1) HNE.out)
            have hne4 : some g ≠ (Value.slice (some ⟨g2, 0, none⟩) (j + 1) cap).ownBlock := by
              intro e
              have e : g = g2 := by simpa [Value.ownBlock] using e
              rcases hor with h | h
              · exact HNE.out (by rw [h, e])
              · have := HK2.out.1.lt
                have h : g2 = wr.heap.size + 1 := h
                omega
            have HNE4 := Lib.hid hne4
            rw [← HE.out] at hown1
            have HOW4 := Lib.hid hown1
            clear hown1 hg1 hor hlt1 hne4 hsl
            go_wp2_with fail
            go_roundw
            case rel => exact ⟨j + 1, by omega, by go_num, HOW4.out, HNE4.out, HK4.out⟩
            case measure => simp [intOf] <;> omega
          · obtain ⟨l, hl⟩ : ∃ l, l = wordsB (blockB M.data.toList q) j := ⟨_, rfl⟩
            have hll : l.length = j := by rw [hl]; exact wordsB_length _ _
            have HN := Lib.hid (next_later (p := blockB M.data.toList q) (l := l) hj16 rfl rfl rfl rfl)
            have HE : Hid (wordCells (wordsB (blockB M.data.toList q) (j + 1)) = wordCells l ++ [.int .u32 ((nextW (blockB M.data.toList q) l j : Nat) : Int)]) := Lib.hid (by rw [wordsB_next, ← hl]; unfold wordCells; simp)
            have hlt4 := fun i => getD_lt (wordsB_lt (blockB M.data.toList q) j) (by decide) i
            rw [← hl] at HOWN hlt4
            rw [HN.out] at HE
            obtain ⟨g', cap, hu5, hg0, hg1⟩ := HOWN.out.form (by omega)
            have hu5 : u5 = .slice (some ⟨g', 0, none⟩) j cap := hu5
            subst hu5
            have hcell : ∀ i, i < j → wr.cell? ⟨g', i, none⟩ = some (.int .u32 ((l.getD i 0 : Nat) : Int)) := fun i hi' => by
              have := HOWN.out.cells (g := g') rfl i (.int .u32 ((l.getD i 0 : Nat) : Int)) (by have h := words_get (l := l) (i := i) (by omega); simpa using h)
              rw [add_off, Nat.zero_add] at this
              exact this
            have hgr : ∀ i v, wr.cell? ⟨g', i, none⟩ = some v → ∀ w3 : World, wr.drew.grownBy w3 none → w3.cell? ⟨g', i, none⟩ = some v := fun i v h w3 hw3 => (Below.cell (below_by hw3) (p := ⟨g', i, none⟩) hg1).trans h
            have HCy0 := Lib.hid (hgr _ _ (hcell (j - 3) (by omega)))
            have HCy1 := Lib.hid (hgr _ _ (hcell (j - 8) (by omega)))
            have HCy2 := Lib.hid (hgr _ _ (hcell (j - 14) (by omega)))
            have HCy3 := Lib.hid (hgr _ _ (hcell (j - 16) (by omega)))
            have HY := Lib.hid (And.intro (hlt4 (j - 3)) (And.intro (hlt4 (j - 8)) (And.intro (hlt4 (j - 14)) (hlt4 (j - 16)))))
            clear hlt4 hcell hgr HN
            generalize l.getD (j - 3) 0 = y0 at *
            generalize l.getD (j - 8) 0 = y1 at *
            generalize l.getD (j - 14) 0 = y2 at *
            generalize l.getD (j - 16) 0 = y3 at *
            have HLC := Lib.hid (show (wordCells l).length = j by unfold wordCells; simpa using hll)
            clear hl hll
            go_upto_region 12 with fail
            refine wp_region_append 51 25 5 192 0 (shaV (.slice (some ⟨g', 0, none⟩) j cap) g' j y0 y1 y2 y3) w.heap.size 77 66 i0 (.int .u32 0) (.slice (some ⟨g', 0, none⟩) j cap) j (wordCells l) [.int .u32 ((rotl (y0 ^^^ y1 ^^^ y2 ^^^ y3) 1 : Nat) : Int)]
              (by kernel_rfl) (by kernel_rfl) rfl (by kernel_rfl) (by kernel_rfl) rfl (by omega) (by omega) Tryz.underlying77 hi hz0 hz1 (by omega) rfl HOWN.out HK2.out.2.2.size (by simp) (by simp [Value.oneCell']) (by simp; omega)
              ?hops ?hbuild _ _ rfl rfl rfl rfl (by omega) rfl rfl rfl rfl rfl ?hK
            case hops =>
              intro i hi' y w3 hf hg hw
              rcases (show i = 0 ∨ i = 1 ∨ i = 2 ∨ i = 3 ∨ i = 4 ∨ i = 5 ∨ i = 6 ∨ i = 7 ∨ i = 8 ∨ i = 9 ∨ i = 10 ∨ i = 11 ∨ i = 12 ∨ i = 13 ∨ i = 14 ∨ i = 15 ∨ i = 16 ∨ i = 17 ∨ i = 18 ∨ i = 19 ∨ i = 20 ∨ i = 21 ∨ i = 22 ∨ i = 23 ∨ i = 24 by omega) with rfl | rfl | rfl | rfl | rfl | rfl | rfl | rfl | rfl | rfl | rfl | rfl | rfl | rfl | rfl | rfl | rfl | rfl | rfl | rfl | rfl | rfl | rfl | rfl | rfl
              · have e0 : y.tmps[5]?.getD undef = .slice (some ⟨g', 0, none⟩) j cap := by rw [hf.2.2 5 (by omega)]; rfl
                clear hf hw hg
                refine wpOp_value (v := shaV (.slice (some ⟨g', 0, none⟩) j cap) g' j y0 y1 y2 y3 0) (w' := w3) rfl rfl ?_ ⟨rfl, by_refl _ _⟩
                go_simp
                rfl
              · have e0 : y.tmps[5]?.getD undef = .slice (some ⟨g', 0, none⟩) j cap := by rw [hf.2.2 5 (by omega)]; rfl
                clear hf hw hg
                refine wpOp_value (v := shaV (.slice (some ⟨g', 0, none⟩) j cap) g' j y0 y1 y2 y3 1) (w' := w3) rfl rfl ?_ ⟨rfl, by_refl _ _⟩
                go_simp
                rfl
              · have e0 : y.tmps[6]?.getD undef = .int .i64 (j : Int) := by rw [hf.2.2 6 (by omega)]; rfl
                clear hf hw hg
                refine wpOp_value (v := shaV (.slice (some ⟨g', 0, none⟩) j cap) g' j y0 y1 y2 y3 2) (w' := w3) rfl rfl ?_ ⟨rfl, by_refl _ _⟩
                go_simp
                rfl
              · have e1 : y.tmps[53]?.getD undef = .int .i64 (j : Int) := hw 2 (of_decide_eq_true (by kernel_rfl)) (by omega)
                have w0 : IntKind.i64.wrap ((j : Int) - 3) = ((j - 3 : Nat) : Int) := by rw [IntWalk.i64_in _ (by omega)]; omega
                clear hf hw hg
                refine wpOp_value (v := shaV (.slice (some ⟨g', 0, none⟩) j cap) g' j y0 y1 y2 y3 3) (w' := w3) rfl rfl ?_ ⟨rfl, by_refl _ _⟩
                go_simp
                rfl
              · obtain ⟨ix, hix⟩ : ∃ ix, ix = j - 3 := ⟨_, rfl⟩
                have e1 : y.tmps[54]?.getD undef = .int .i64 ((j - 3 : Nat) : Int) := hw 3 (of_decide_eq_true (by kernel_rfl)) (by omega)
                have e0 : y.tmps[52]?.getD undef = .slice (some ⟨g', 0, none⟩) j cap := hw 1 (of_decide_eq_true (by kernel_rfl)) (by omega)
                have hxl : (ix : Int) < (j : Int) := by omega
                rw [← hix] at e1
                have HV : Hid (shaV (.slice (some ⟨g', 0, none⟩) j cap) g' j y0 y1 y2 y3 4 = .pointer (some ⟨g', ix, none⟩)) := Lib.hid (by rw [hix]; rfl)
                rw [HV.out]
                clear hf hw hg hix
                refine wpOp_value (v := .pointer (some ⟨g', ix, none⟩)) (w' := w3) rfl rfl ?_ ⟨rfl, by_refl _ _⟩
                go_simp
              · have e1 : y.tmps[55]?.getD undef = .pointer (some ⟨g', j - 3, none⟩) := hw 4 (of_decide_eq_true (by kernel_rfl)) (by omega)
                have hcx : w3.cell? ⟨g', j - 3, none⟩ = some (.int .u32 (y0 : Int)) := HCy0.out w3 hg
                clear hf hw hg
                refine wpOp_value (v := shaV (.slice (some ⟨g', 0, none⟩) j cap) g' j y0 y1 y2 y3 5) (w' := w3) rfl rfl ?_ ⟨rfl, by_refl _ _⟩
                go_simp
                rfl
              · have e0 : y.tmps[5]?.getD undef = .slice (some ⟨g', 0, none⟩) j cap := by rw [hf.2.2 5 (by omega)]; rfl
                clear hf hw hg
                refine wpOp_value (v := shaV (.slice (some ⟨g', 0, none⟩) j cap) g' j y0 y1 y2 y3 6) (w' := w3) rfl rfl ?_ ⟨rfl, by_refl _ _⟩
                go_simp
                rfl
              · have e0 : y.tmps[6]?.getD undef = .int .i64 (j : Int) := by rw [hf.2.2 6 (by omega)]; rfl
                clear hf hw hg
                refine wpOp_value (v := shaV (.slice (some ⟨g', 0, none⟩) j cap) g' j y0 y1 y2 y3 7) (w' := w3) rfl rfl ?_ ⟨rfl, by_refl _ _⟩
                go_simp
                rfl
              · have e1 : y.tmps[58]?.getD undef = .int .i64 (j : Int) := hw 7 (of_decide_eq_true (by kernel_rfl)) (by omega)
                have w0 : IntKind.i64.wrap ((j : Int) - 8) = ((j - 8 : Nat) : Int) := by rw [IntWalk.i64_in _ (by omega)]; omega
                clear hf hw hg
                refine wpOp_value (v := shaV (.slice (some ⟨g', 0, none⟩) j cap) g' j y0 y1 y2 y3 8) (w' := w3) rfl rfl ?_ ⟨rfl, by_refl _ _⟩
                go_simp
                rfl
              · obtain ⟨ix, hix⟩ : ∃ ix, ix = j - 8 := ⟨_, rfl⟩
                have e1 : y.tmps[59]?.getD undef = .int .i64 ((j - 8 : Nat) : Int) := hw 8 (of_decide_eq_true (by kernel_rfl)) (by omega)
                have e0 : y.tmps[57]?.getD undef = .slice (some ⟨g', 0, none⟩) j cap := hw 6 (of_decide_eq_true (by kernel_rfl)) (by omega)
                have hxl : (ix : Int) < (j : Int) := by omega
                rw [← hix] at e1
                have HV : Hid (shaV (.slice (some ⟨g', 0, none⟩) j cap) g' j y0 y1 y2 y3 9 = .pointer (some ⟨g', ix, none⟩)) := Lib.hid (by rw [hix]; rfl)
                rw [HV.out]
                clear hf hw hg hix
                refine wpOp_value (v := .pointer (some ⟨g', ix, none⟩)) (w' := w3) rfl rfl ?_ ⟨rfl, by_refl _ _⟩
                go_simp
              · have e1 : y.tmps[60]?.getD undef = .pointer (some ⟨g', j - 8, none⟩) := hw 9 (of_decide_eq_true (by kernel_rfl)) (by omega)
                have hcx : w3.cell? ⟨g', j - 8, none⟩ = some (.int .u32 (y1 : Int)) := HCy1.out w3 hg
                clear hf hw hg
                refine wpOp_value (v := shaV (.slice (some ⟨g', 0, none⟩) j cap) g' j y0 y1 y2 y3 10) (w' := w3) rfl rfl ?_ ⟨rfl, by_refl _ _⟩
                go_simp
                rfl
              · have e1 : y.tmps[56]?.getD undef = .int .u32 (y0 : Int) := hw 5 (of_decide_eq_true (by kernel_rfl)) (by omega)
                have e2 : y.tmps[61]?.getD undef = .int .u32 (y1 : Int) := hw 10 (of_decide_eq_true (by kernel_rfl)) (by omega)
                have HX := Lib.hid (u32_xor_nat (y0) (y1) HY.out.1 HY.out.2.1)
                clear hf hw hg
                refine wpOp_value (v := shaV (.slice (some ⟨g', 0, none⟩) j cap) g' j y0 y1 y2 y3 11) (w' := w3) rfl rfl ?_ ⟨rfl, by_refl _ _⟩
                go_simp
                first | exact congrArg (Value.int .u32) HX.out | (rw [HX.out]; rfl)
              · have e0 : y.tmps[5]?.getD undef = .slice (some ⟨g', 0, none⟩) j cap := by rw [hf.2.2 5 (by omega)]; rfl
                clear hf hw hg
                refine wpOp_value (v := shaV (.slice (some ⟨g', 0, none⟩) j cap) g' j y0 y1 y2 y3 12) (w' := w3) rfl rfl ?_ ⟨rfl, by_refl _ _⟩
                go_simp
                rfl
              · have e0 : y.tmps[6]?.getD undef = .int .i64 (j : Int) := by rw [hf.2.2 6 (by omega)]; rfl
                clear hf hw hg
                refine wpOp_value (v := shaV (.slice (some ⟨g', 0, none⟩) j cap) g' j y0 y1 y2 y3 13) (w' := w3) rfl rfl ?_ ⟨rfl, by_refl _ _⟩
                go_simp
                rfl
              · have e1 : y.tmps[64]?.getD undef = .int .i64 (j : Int) := hw 13 (of_decide_eq_true (by kernel_rfl)) (by omega)
                have w0 : IntKind.i64.wrap ((j : Int) - 14) = ((j - 14 : Nat) : Int) := by rw [IntWalk.i64_in _ (by omega)]; omega
                clear hf hw hg
                refine wpOp_value (v := shaV (.slice (some ⟨g', 0, none⟩) j cap) g' j y0 y1 y2 y3 14) (w' := w3) rfl rfl ?_ ⟨rfl, by_refl _ _⟩
                go_simp
                rfl
              · obtain ⟨ix, hix⟩ : ∃ ix, ix = j - 14 := ⟨_, rfl⟩
                have e1 : y.tmps[65]?.getD undef = .int .i64 ((j - 14 : Nat) : Int) := hw 14 (of_decide_eq_true (by kernel_rfl)) (by omega)
                have e0 : y.tmps[63]?.getD undef = .slice (some ⟨g', 0, none⟩) j cap := hw 12 (of_decide_eq_true (by kernel_rfl)) (by omega)
                have hxl : (ix : Int) < (j : Int) := by omega
                rw [← hix] at e1
                have HV : Hid (shaV (.slice (some ⟨g', 0, none⟩) j cap) g' j y0 y1 y2 y3 15 = .pointer (some ⟨g', ix, none⟩)) := Lib.hid (by rw [hix]; rfl)
                rw [HV.out]
                clear hf hw hg hix
                refine wpOp_value (v := .pointer (some ⟨g', ix, none⟩)) (w' := w3) rfl rfl ?_ ⟨rfl, by_refl _ _⟩
                go_simp
              · have e1 : y.tmps[66]?.getD undef = .pointer (some ⟨g', j - 14, none⟩) := hw 15 (of_decide_eq_true (by kernel_rfl)) (by omega)
                have hcx : w3.cell? ⟨g', j - 14, none⟩ = some (.int .u32 (y2 : Int)) := HCy2.out w3 hg
                clear hf hw hg
                refine wpOp_value (v := shaV (.slice (some ⟨g', 0, none⟩) j cap) g' j y0 y1 y2 y3 16) (w' := w3) rfl rfl ?_ ⟨rfl, by_refl _ _⟩
                go_simp
                rfl
              · have e1 : y.tmps[62]?.getD undef = .int .u32 ((y0 ^^^ y1 : Nat) : Int) := hw 11 (of_decide_eq_true (by kernel_rfl)) (by omega)
                have e2 : y.tmps[67]?.getD undef = .int .u32 (y2 : Int) := hw 16 (of_decide_eq_true (by kernel_rfl)) (by omega)
                have HX := Lib.hid (u32_xor_nat (y0 ^^^ y1) (y2) (Nat.xor_lt_two_pow (n := 32) HY.out.1 HY.out.2.1) HY.out.2.2.1)
                clear hf hw hg
                refine wpOp_value (v := shaV (.slice (some ⟨g', 0, none⟩) j cap) g' j y0 y1 y2 y3 17) (w' := w3) rfl rfl ?_ ⟨rfl, by_refl _ _⟩
                go_simp
                first | exact congrArg (Value.int .u32) HX.out | (rw [HX.out]; rfl)
              · have e0 : y.tmps[5]?.getD undef = .slice (some ⟨g', 0, none⟩) j cap := by rw [hf.2.2 5 (by omega)]; rfl
                clear hf hw hg
                refine wpOp_value (v := shaV (.slice (some ⟨g', 0, none⟩) j cap) g' j y0 y1 y2 y3 18) (w' := w3) rfl rfl ?_ ⟨rfl, by_refl _ _⟩
                go_simp
                rfl
              · have e0 : y.tmps[6]?.getD undef = .int .i64 (j : Int) := by rw [hf.2.2 6 (by omega)]; rfl
                clear hf hw hg
                refine wpOp_value (v := shaV (.slice (some ⟨g', 0, none⟩) j cap) g' j y0 y1 y2 y3 19) (w' := w3) rfl rfl ?_ ⟨rfl, by_refl _ _⟩
                go_simp
                rfl
              · have e1 : y.tmps[70]?.getD undef = .int .i64 (j : Int) := hw 19 (of_decide_eq_true (by kernel_rfl)) (by omega)
                have w0 : IntKind.i64.wrap ((j : Int) - 16) = ((j - 16 : Nat) : Int) := by rw [IntWalk.i64_in _ (by omega)]; omega
                clear hf hw hg
                refine wpOp_value (v := shaV (.slice (some ⟨g', 0, none⟩) j cap) g' j y0 y1 y2 y3 20) (w' := w3) rfl rfl ?_ ⟨rfl, by_refl _ _⟩
                go_simp
                rfl
              · obtain ⟨ix, hix⟩ : ∃ ix, ix = j - 16 := ⟨_, rfl⟩
                have e1 : y.tmps[71]?.getD undef = .int .i64 ((j - 16 : Nat) : Int) := hw 20 (of_decide_eq_true (by kernel_rfl)) (by omega)
                have e0 : y.tmps[69]?.getD undef = .slice (some ⟨g', 0, none⟩) j cap := hw 18 (of_decide_eq_true (by kernel_rfl)) (by omega)
                have hxl : (ix : Int) < (j : Int) := by omega
                rw [← hix] at e1
                have HV : Hid (shaV (.slice (some ⟨g', 0, none⟩) j cap) g' j y0 y1 y2 y3 21 = .pointer (some ⟨g', ix, none⟩)) := Lib.hid (by rw [hix]; rfl)
                rw [HV.out]
                clear hf hw hg hix
                refine wpOp_value (v := .pointer (some ⟨g', ix, none⟩)) (w' := w3) rfl rfl ?_ ⟨rfl, by_refl _ _⟩
                go_simp
              · have e1 : y.tmps[72]?.getD undef = .pointer (some ⟨g', j - 16, none⟩) := hw 21 (of_decide_eq_true (by kernel_rfl)) (by omega)
                have hcx : w3.cell? ⟨g', j - 16, none⟩ = some (.int .u32 (y3 : Int)) := HCy3.out w3 hg
                clear hf hw hg
                refine wpOp_value (v := shaV (.slice (some ⟨g', 0, none⟩) j cap) g' j y0 y1 y2 y3 22) (w' := w3) rfl rfl ?_ ⟨rfl, by_refl _ _⟩
                go_simp
                rfl
              · have e1 : y.tmps[68]?.getD undef = .int .u32 ((y0 ^^^ y1 ^^^ y2 : Nat) : Int) := hw 17 (of_decide_eq_true (by kernel_rfl)) (by omega)
                have e2 : y.tmps[73]?.getD undef = .int .u32 (y3 : Int) := hw 22 (of_decide_eq_true (by kernel_rfl)) (by omega)
                have HX := Lib.hid (u32_xor_nat (y0 ^^^ y1 ^^^ y2) (y3) (Nat.xor_lt_two_pow (n := 32) (Nat.xor_lt_two_pow (n := 32) HY.out.1 HY.out.2.1) HY.out.2.2.1) HY.out.2.2.2)
                clear hf hw hg
                refine wpOp_value (v := shaV (.slice (some ⟨g', 0, none⟩) j cap) g' j y0 y1 y2 y3 23) (w' := w3) rfl rfl ?_ ⟨rfl, by_refl _ _⟩
                go_simp
                first | exact congrArg (Value.int .u32) HX.out | (rw [HX.out]; rfl)
              · have e1 : y.tmps[74]?.getD undef = .int .u32 ((y0 ^^^ y1 ^^^ y2 ^^^ y3 : Nat) : Int) := hw 23 (of_decide_eq_true (by kernel_rfl)) (by omega)
                have HT := Lib.hid ((turn_any (y0 ^^^ y1 ^^^ y2 ^^^ y3) 1 w3 (Nat.xor_lt_two_pow (n := 32) (Nat.xor_lt_two_pow (n := 32) (Nat.xor_lt_two_pow (n := 32) HY.out.1 HY.out.2.1) HY.out.2.2.1) HY.out.2.2.2) (Or.inl rfl)).mono (fun e w4 ⟨he, d, hd⟩ => show ∃ v, e = Ending.returned v ∧ y.put (some (51 + 24)) v = y.put (some (51 + 24)) (shaV (.slice (some ⟨g', 0, none⟩) j cap) g' j y0 y1 y2 y3 24) ∧ w3.grownBy w4 none from ⟨_, he, rfl, by rw [hd]; exact by_drewN (by_refl _ _) d⟩))
                clear hf hw hg
                refine wpOp_call rfl rfl ?_ HT.out
                go_simp
            case hbuild =>
              intro y w3 hw
              have e1 : y.tmps[75]?.getD undef = .int .u32 ((rotl (y0 ^^^ y1 ^^^ y2 ^^^ y3) 1 : Nat) : Int) := hw 24 (of_decide_eq_true (by kernel_rfl)) (by omega)
              refine ⟨_, rfl, rfl, rfl, ?_⟩
              clear hw
              go_simp
            case hK =>
              intro y w4 g2 cap2 h1 h2 h3 h4 h5 h6 h7
              have HO := Lib.hid h5
              have HK4 := Lib.hid (KeepH.row (KeepH.new HK2.out (by_drew (by_refl _ _))) h6 (fun k hk => (HOWN.out.lt k hk).1) HNE.out)
              have hne4 : some g ≠ (Value.slice (some ⟨g2, 0, none⟩) (j + 1) cap2).ownBlock := by
                intro e
                have e : g = g2 := by simpa [Value.ownBlock] using e
                rcases h7 with h | h
                · exact HNE.out (by rw [h, e])
                · have := HK2.out.1.lt
                  omega
              have HNE4 := Lib.hid hne4
              clear h5 h6 h7 hne4
              obtain ⟨ys, hys, rfl⟩ := frame_again 51 27 5 _ h1 (by exact h2) (fun s e k => h3 s e (by omega)) h4 (by omega) (by show 78 ≤ 192; omega)
              obtain ⟨k0, k1, k2, k3, k4, k5, k6, k7, k8, k9, k10, k11, k12, k13, k14, k15, k16, k17, k18, k19, k20, k21, k22, k23, k24, k25, k26, rfl⟩ := list27 ys hys
              clear h1 h2 h3 h4 hys
              simp only [List.take_succ_cons, List.take_zero, List.drop_succ_cons, List.drop_zero, List.cons_append, List.nil_append, List.set_cons_zero, List.set_cons_succ]
              go_wp2_with fail
              go_roundw
              case rel => exact ⟨j + 1, by omega, by go_num, by rw [HE.out]; exact HO.out, HNE4.out, HK4.out⟩
              case measure => simp [intOf] <;> omega
        · obtain rfl : j = 80 := by omega
          obtain ⟨L, hL⟩ : ∃ L, L = wordsB (blockB M.data.toList q) 80 := ⟨_, rfl⟩
          have HLen : Hid (L.length = 80) := Lib.hid (by rw [hL]; exact wordsB_length _ 80)
          obtain ⟨x0, hx0⟩ : ∃ x0, x0 = hashB M.data.toList q := ⟨_, rfl⟩
          have HNX : Hid (hashB M.data.toList (q + 1) = x0.plus (stepsW L 80 x0)) := Lib.hid (by rw [hL, hx0]; rfl)
          have HOK : Hid x0.ok := Lib.hid (by rw [hx0]; exact hashB_ok _ _)
          rw [← hx0] at HH
          rw [← hL] at HOWN
          clear hx0 hL
          obtain ⟨g', cap, hu5, hg0, hg1⟩ := HOWN.out.form (by omega)
          have hu5 : u5 = .slice (some ⟨g', 0, none⟩) 80 cap := hu5
          subst hu5
          have r0 : wr.cell? ⟨g, 0, none⟩ = some (.int .u32 (x0.a : Int)) := by rw [HK2.out.1.cell, HH.out]; rfl
          have r1 : wr.cell? ⟨g, 1, none⟩ = some (.int .u32 (x0.b : Int)) := by rw [HK2.out.1.cell, HH.out]; rfl
          have r2 : wr.cell? ⟨g, 2, none⟩ = some (.int .u32 (x0.c : Int)) := by rw [HK2.out.1.cell, HH.out]; rfl
          have r3 : wr.cell? ⟨g, 3, none⟩ = some (.int .u32 (x0.d : Int)) := by rw [HK2.out.1.cell, HH.out]; rfl
          have r4 : wr.cell? ⟨g, 4, none⟩ = some (.int .u32 (x0.e : Int)) := by rw [HK2.out.1.cell, HH.out]; rfl
          go_wp2_with fail
          go_quiet (fail)
          go_wp2_with fail
          clear r0 r1 r2 r3 r4
          go_loopw [7, 8, 9, 10, 11, 12] (fun v7 v8 v9 v10 v11 i w3 => ∃ (t : Nat) (x : St), t ≤ 80 ∧ i = .int .i64 (t : Int) ∧ x = stepsW L t x0 ∧ v7 = .int .u32 (x.a : Int) ∧ v8 = .int .u32 (x.b : Int) ∧ v9 = .int .u32 (x.c : Int) ∧ v10 = .int .u32 (x.d : Int) ∧ v11 = .int .u32 (x.e : Int) ∧ KeepH w w3 g H ∧ w3.ownsRow w.heap.size 66 1 (.slice (some ⟨g', 0, none⟩) 80 cap) 80 (wordCells L)) (fun _ _ _ _ _ i _ => 80 - (intOf i).toNat)
          case atStart => exact ⟨0, x0, by omega, rfl, rfl, rfl, rfl, rfl, rfl, rfl, KeepH.new HK2.out (by_drewN (by_refl _ _) _), HOWN.out⟩
          case round =>
            clear HOWN HK2
            obtain ⟨t, x, ht, rfl, hx, rfl, rfl, rfl, rfl, rfl, hk3, hown3⟩ := hrel
            have HK3 := Lib.hid hk3
            have HOW3 := Lib.hid hown3
            have hok : x.ok := by rw [hx]; exact stepsW_ok L t HOK.out
            clear hk3 hown3
            by_cases ht80 : t < 80
            · have HN : Hid (stepsW L (t + 1) x0 = stepW (L.getD t 0) t x) := Lib.hid (by rw [hx]; rfl)
              clear hx
              have hcw : wr.cell? ⟨g', t, none⟩ = some (.int .u32 ((L.getD t 0 : Nat) : Int)) := by
                have := HOW3.out.cells (g := g') rfl t (.int .u32 ((L.getD t 0 : Nat) : Int)) (by have h := words_get (l := L) (i := t) (by rw [HLen.out]; exact ht80); simpa using h)
                rw [add_off, Nat.zero_add] at this
                exact this
              have ht80I : (t : Int) < 80 := by omega
              obtain ⟨y, hy⟩ : ∃ y, y = L.getD t 0 := ⟨_, rfl⟩
              rw [← hy] at hcw HN
              clear hy
              obtain ⟨xa, xb, xc, xd, xe⟩ := x
              obtain ⟨ha, hb, hc, hd, he⟩ := hok
              simp only at ha hb hc hd he
              simp only
              have hxor : bits .xor .u32 (bits .xor .u32 (xb : Int) (xc : Int)) (xd : Int) = ((xb ^^^ xc ^^^ xd : Nat) : Int) := by
                rw [u32_xor_nat xb xc hb hc, u32_xor_nat _ xd (Nat.xor_lt_two_pow (n := 32) hb hc) hd]
              have hand : bits .or .u32 (bits .and .u32 (xb : Int) (xc : Int)) (bits .and .u32 (bits .xor .u32 IntKind.u32.max (xb : Int)) (xd : Int)) = (((xb &&& xc) ||| ((4294967295 ^^^ xb) &&& xd) : Nat) : Int) := by
                rw [u32_and_nat xb xc hb hc, not_word xb hb, u32_and_nat _ xd (Nat.xor_lt_two_pow (n := 32) (by decide) hb) hd, u32_or_nat _ _ (Nat.and_lt_two_pow (n := 32) _ hc) (Nat.and_lt_two_pow (n := 32) _ hd)]
              have hmaj : bits .or .u32 (bits .or .u32 (bits .and .u32 (xb : Int) (xc : Int)) (bits .and .u32 (xb : Int) (xd : Int))) (bits .and .u32 (xc : Int) (xd : Int)) = ((((xb &&& xc) ||| (xb &&& xd)) ||| (xc &&& xd) : Nat) : Int) := by
                have g1 : xb &&& xc < 4294967296 := Nat.and_lt_two_pow (n := 32) _ hc
                have g2 : xb &&& xd < 4294967296 := Nat.and_lt_two_pow (n := 32) _ hd
                have g3 : xc &&& xd < 4294967296 := Nat.and_lt_two_pow (n := 32) _ hd
                rw [u32_and_nat xb xc hb hc, u32_and_nat xb xd hb hd, u32_and_nat xc xd hc hd, u32_or_nat _ _ g1 g2, u32_or_nat _ _ (Nat.or_lt_two_pow (n := 32) g1 g2) g3]
              have HRa := Lib.hid (fun w => turn_any xa 5 w ha (Or.inr (Or.inl rfl)))
              have HRb := Lib.hid (fun w => turn_any xb 30 w hb (Or.inr (Or.inr rfl)))
              unfold stepW at HN
              simp only at HN
              obtain ⟨ff, hff⟩ : ∃ F, F = pickW t xb xc xd := ⟨_, rfl⟩
              obtain ⟨kk, hkk⟩ : ∃ k, k = kayW t := ⟨_, rfl⟩
              obtain ⟨ra, hra⟩ : ∃ r, r = rotl xa 5 := ⟨_, rfl⟩
              obtain ⟨rb, hrb⟩ : ∃ r, r = rotl xb 30 := ⟨_, rfl⟩
              rw [← hff, ← hkk, ← hra, ← hrb] at HN
              rw [← hra] at HRa
              rw [← hrb] at HRb
              clear hra hrb ha hb hc hd he
              by_cases h20 : t < 20
              · have g1 : (t : Int) < 20 := by omega
                have HKv : Hid (Value.int .u32 1518500249 = .int .u32 ((kk : Nat) : Int)) := Lib.hid (by rw [hkk]; unfold kayW; rw [if_pos h20]; rfl)
                have HFv : Hid (bits .or .u32 (bits .and .u32 (xb : Int) (xc : Int)) (bits .and .u32 (bits .xor .u32 IntKind.u32.max (xb : Int)) (xd : Int)) = ((ff : Nat) : Int)) := Lib.hid (by rw [hff]; unfold pickW; rw [if_pos h20]; exact hand)
                clear hff hkk hxor hand hmaj
                go_wp2_with fail
                rw [HFv.out, HKv.out]
                clear HFv HKv
                go_quiet (first | (go_at_call 54; refine Calls.quiet_of (HRa.out _)))
                go_wp2_with (go_at_call 54; refine (HRb.out _).mono ?_; rintro e4 w4 ⟨rfl, d4, rfl⟩)
                go_wp2_with fail
                refine ⟨?_, ?measure⟩
                · iterate 40 (apply Exists.intro)
                  repeat (apply Exists.intro)
                  refine ⟨?_, rfl⟩
                  exact ⟨t + 1, stepsW L (t + 1) x0, by omega, by go_num, rfl, by rw [HN.out, sum5], by rw [HN.out], by rw [HN.out], by rw [HN.out], by rw [HN.out], KeepH.new HK3.out (by_drewN (by_refl _ _) _), HOW3.out⟩
                case measure => simp [intOf] <;> omega
              · by_cases h40 : t < 40
                · have g1 : ¬ (t : Int) < 20 := by omega
                  have g2 : decide ((40 : Int) ≤ (t : Int)) = false := decide_eq_false (by omega)
                  have g3 : ¬ (60 : Int) ≤ (t : Int) := by omega
                  have HKv : Hid (Value.int .u32 1859775393 = .int .u32 ((kk : Nat) : Int)) := Lib.hid (by rw [hkk]; unfold kayW; rw [if_neg h20, if_pos h40]; rfl)
                  have HFv : Hid (bits .xor .u32 (bits .xor .u32 (xb : Int) (xc : Int)) (xd : Int) = ((ff : Nat) : Int)) := Lib.hid (by rw [hff]; unfold pickW; rw [if_neg h20, if_pos h40]; exact hxor)
                  clear hff hkk hxor hand hmaj
                  go_wp2_with fail
                  rw [HFv.out, HKv.out]
                  clear HFv HKv
                  go_quiet (first | (go_at_call 54; refine Calls.quiet_of (HRa.out _)))
                  go_wp2_with (go_at_call 54; refine (HRb.out _).mono ?_; rintro e4 w4 ⟨rfl, d4, rfl⟩)
                  go_wp2_with fail
                  refine ⟨?_, ?measure⟩
                  · iterate 40 (apply Exists.intro)
                    repeat (apply Exists.intro)
                    refine ⟨?_, rfl⟩
                    exact ⟨t + 1, stepsW L (t + 1) x0, by omega, by go_num, rfl, by rw [HN.out, sum5], by rw [HN.out], by rw [HN.out], by rw [HN.out], by rw [HN.out], KeepH.new HK3.out (by_drewN (by_refl _ _) _), HOW3.out⟩
                  case measure => simp [intOf] <;> omega
                · by_cases h60 : t < 60
                  · have g1 : ¬ (t : Int) < 20 := by omega
                    have g2 : (40 : Int) ≤ (t : Int) := by omega
                    have g3 : (t : Int) < 60 := by omega
                    have HKv : Hid (Value.int .u32 2400959708 = .int .u32 ((kk : Nat) : Int)) := Lib.hid (by rw [hkk]; unfold kayW; rw [if_neg h20, if_neg h40, if_pos h60]; rfl)
                    have HFv : Hid (bits .or .u32 (bits .or .u32 (bits .and .u32 (xb : Int) (xc : Int)) (bits .and .u32 (xb : Int) (xd : Int))) (bits .and .u32 (xc : Int) (xd : Int)) = ((ff : Nat) : Int)) := Lib.hid (by rw [hff]; unfold pickW; rw [if_neg h20, if_neg h40, if_pos h60]; exact hmaj)
                    clear hff hkk hxor hand hmaj
                    go_wp2_with fail
                    rw [HFv.out, HKv.out]
                    clear HFv HKv
                    go_quiet (first | (go_at_call 54; refine Calls.quiet_of (HRa.out _)))
                    go_wp2_with (go_at_call 54; refine (HRb.out _).mono ?_; rintro e4 w4 ⟨rfl, d4, rfl⟩)
                    go_wp2_with fail
                    refine ⟨?_, ?measure⟩
                    · iterate 40 (apply Exists.intro)
                      repeat (apply Exists.intro)
                      refine ⟨?_, rfl⟩
                      exact ⟨t + 1, stepsW L (t + 1) x0, by omega, by go_num, rfl, by rw [HN.out, sum5], by rw [HN.out], by rw [HN.out], by rw [HN.out], by rw [HN.out], KeepH.new HK3.out (by_drewN (by_refl _ _) _), HOW3.out⟩
                    case measure => simp [intOf] <;> omega
                  · have g1 : ¬ (t : Int) < 20 := by omega
                    have g2 : (40 : Int) ≤ (t : Int) := by omega
                    have g3 : ¬ (t : Int) < 60 := by omega
                    have g4 : (60 : Int) ≤ (t : Int) := by omega
                    have HKv : Hid (Value.int .u32 3395469782 = .int .u32 ((kk : Nat) : Int)) := Lib.hid (by rw [hkk]; unfold kayW; rw [if_neg h20, if_neg h40, if_neg h60]; rfl)
                    have HFv : Hid (bits .xor .u32 (bits .xor .u32 (xb : Int) (xc : Int)) (xd : Int) = ((ff : Nat) : Int)) := Lib.hid (by rw [hff]; unfold pickW; rw [if_neg h20, if_neg h40, if_neg h60]; exact hxor)
                    clear hff hkk hxor hand hmaj
                    go_wp2_with fail
                    rw [HFv.out, HKv.out]
                    clear HFv HKv
                    go_quiet (first | (go_at_call 54; refine Calls.quiet_of (HRa.out _)))
                    go_wp2_with (go_at_call 54; refine (HRb.out _).mono ?_; rintro e4 w4 ⟨rfl, d4, rfl⟩)
                    go_wp2_with fail
                    refine ⟨?_, ?measure⟩
                    · iterate 40 (apply Exists.intro)
                      repeat (apply Exists.intro)
                      refine ⟨?_, rfl⟩
                      exact ⟨t + 1, stepsW L (t + 1) x0, by omega, by go_num, rfl, by rw [HN.out, sum5], by rw [HN.out], by rw [HN.out], by rw [HN.out], by rw [HN.out], KeepH.new HK3.out (by_drewN (by_refl _ _) _), HOW3.out⟩
                    case measure => simp [intOf] <;> omega
            · obtain rfl : t = 80 := by omega
              have HXX := Lib.hid hx
              have r0 : wr.cell? ⟨g, 0, none⟩ = some (.int .u32 (x0.a : Int)) := by rw [HK3.out.1.cell, HH.out]; rfl
              have r1 : wr.cell? ⟨g, 1, none⟩ = some (.int .u32 (x0.b : Int)) := by rw [HK3.out.1.cell, HH.out]; rfl
              have r2 : wr.cell? ⟨g, 2, none⟩ = some (.int .u32 (x0.c : Int)) := by rw [HK3.out.1.cell, HH.out]; rfl
              have r3 : wr.cell? ⟨g, 3, none⟩ = some (.int .u32 (x0.d : Int)) := by rw [HK3.out.1.cell, HH.out]; rfl
              have r4 : wr.cell? ⟨g, 4, none⟩ = some (.int .u32 (x0.e : Int)) := by rw [HK3.out.1.cell, HH.out]; rfl
              clear hx hok
              go_wp2_with fail
              go_still_tail 25, (by kernel_rfl)
              change wpList _ _ _ _ _ wr.drew
              go_wp2_with fail
              clear r0 r1 r2 r3 r4
              refine ⟨?_, ?measure⟩
              · refine ⟨q + 1, wr.heap.size, by omega, ⟨A + 64, by have := HA.out; omega, by go_num⟩, rfl, ?_⟩
                have hc : #[Value.int .u32 (((x0.a : Int) + (x.a : Int)) % 4294967296), .int .u32 (((x0.b : Int) + (x.b : Int)) % 4294967296), .int .u32 (((x0.c : Int) + (x.c : Int)) % 4294967296), .int .u32 (((x0.d : Int) + (x.d : Int)) % 4294967296), .int .u32 (((x0.e : Int) + (x.e : Int)) % 4294967296)] = stCells (hashB M.data.toList (q + 1)) := by
                  rw [HNX.out, ← HXX.out]
                  exact plus_cells x0.a x0.b x0.c x0.d x0.e x
                refine ⟨?_, HK3.out.2.2.size, HK3.out.2.2.drew.alloc HK3.out.2.2.size _⟩
                rw [← hc]
                exact Blk.new wr.drew _ _
              case measure => have := HA.out; simp [intOf] <;> omega
    · obtain rfl : q = Q := by omega
      have hAMI : ¬ (A : Int) < (M.size : Int) := by have := HMQ.out; omega
      obtain ⟨st, hst⟩ : ∃ st, st = hashB M.data.toList q := ⟨_, rfl⟩
      rw [← hst] at HK
      have HST := Lib.hid hst
      have hok : st.ok := by rw [hst]; exact hashB_ok _ _
      have HOK := Lib.hid hok
      clear hst hA hok
      go_wp2_with fail
      go_loopw [16, 17] (fun o i w2 => ∃ j : Nat, j ≤ 5 ∧ i = .int .i64 (j : Int) ∧ o = .string ⟨((st.words.take j).flatMap fun x => highB x 4).toArray⟩ ∧ KeepH w w2 g (stCells st)) (fun _ i _ => 5 - (intOf i).toNat)
      case atStart => exact ⟨0, by omega, rfl, rfl, HK.out⟩
      case round =>
        obtain ⟨j, hj, rfl, rfl, hk2⟩ := hrel
        have HK2 := Lib.hid hk2
        clear hk2
        by_cases hj5 : j < 5
        · obtain ⟨y, hy⟩ : ∃ y, y = st.words.getD j 0 := ⟨_, rfl⟩
          have hyl : y < 4294967296 := by
            rw [hy]
            have h := HOK.out
            match j, hj5 with
            | 0, _ => exact h.1
            | 1, _ => exact h.2.1
            | 2, _ => exact h.2.2.1
            | 3, _ => exact h.2.2.2.1
            | 4, _ => exact h.2.2.2.2
          have hcj : wr.cell? ⟨g, j, none⟩ = some (.int .u32 (y : Int)) := by
            rw [HK2.out.1.cell, hy]
            match j, hj5 with
            | 0, _ => rfl
            | 1, _ => rfl
            | 2, _ => rfl
            | 3, _ => rfl
            | 4, _ => rfl
          have hw5 : st.words[j]? = some y := by
            rw [hy]
            match j, hj5 with
            | 0, _ => rfl
            | 1, _ => rfl
            | 2, _ => rfl
            | 3, _ => rfl
            | 4, _ => rfl
          have HT : Hid ((st.words.take (j + 1)).flatMap (fun x => highB x 4) = (st.words.take j).flatMap (fun x => highB x 4) ++ highB y 4) := Lib.hid (by rw [List.take_add_one, hw5]; simp)
          have hll := words_bytes st hj5
          obtain ⟨l, hl⟩ : ∃ l, l = (st.words.take j).flatMap fun x => highB x 4 := ⟨_, rfl⟩
          rw [← hl] at HT hll
          rw [← hl]
          obtain ⟨O, hO⟩ : ∃ O : ByteArray, O = ⟨l.toArray⟩ := ⟨_, rfl⟩
          obtain ⟨Y, hY⟩ : ∃ Y : ByteArray, Y = ⟨(highB y 4).toArray⟩ := ⟨_, rfl⟩
          have hOs : O.size = 4 * j := by rw [hO]; show l.toArray.size = _; simpa using hll
          have hYs : Y.size = 4 := by rw [hY]; show (highB y 4).toArray.size = 4; simp [highB_length]
          have HOY : Hid (O ++ Y = ⟨(l ++ highB y 4).toArray⟩) := Lib.hid (by rw [hO, hY]; apply ByteArray.ext; rw [ByteArray.data_append]; simp)
          have HHi : Hid (∀ w3, Calls Tryz.prog 55 #[.int .u64 (y : Int), .int .i64 4] w3 fun e w' => e = .returned (.string Y) ∧ Below w3.heap.size w3 w') := Lib.hid (fun w3 => by rw [hY]; exact high_any y 4 w3 (by omega) (by omega) (by omega))
          have hsum : O.size + Y.size ≤ 9223372036854775807 := by omega
          rw [← hO]
          have hjI : (j : Int) < 5 := by omega
          clear hy hw5 hl hO hY hOs hYs hll
          go_wp2_with (go_at_call 55; refine (HHi.out _).mono ?_; rintro e3 w3 ⟨rfl, hb3⟩)
          go_wp2_with fail
          go_roundw
          case rel => exact ⟨j + 1, by omega, by go_num, by rw [HT.out, HOY.out], HK2.out.1.below hb3 HK2.out.1.lt, HK2.out.2.1, HK2.out.2.2.trans (hb3.mono HK2.out.2.2.size)⟩
          case measure => simp [intOf] <;> omega
        · obtain rfl : j = 5 := by omega
          go_wp2_with fail
          go_ret
          refine ⟨?_, HK2.out.2.2⟩
          have e : (st.words.take 5).flatMap (fun x => highB x 4) = oneB s.data.toList := by
            rw [show st.words.take 5 = st.words from rfl, text_words, HST.out]
            unfold oneB
            rw [← Lib.size_eq, ← HMD.out, ← Lib.size_eq, HQ.out]
          exact congrArg (fun l : List UInt8 => Ending.returned (.string ⟨l.toArray⟩)) e
end Go.Proofs.YtpliknofjgbfjaaGreatDoor
