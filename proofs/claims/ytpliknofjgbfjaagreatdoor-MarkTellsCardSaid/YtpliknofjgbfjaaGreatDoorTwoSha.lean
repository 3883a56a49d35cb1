/-
  SHA-256, the document's own.
-/
import Derived.Test.YtpliknofjgbfjaaGreatDoorOneRefPad
import Derived.Test.YtpliknofjgbfjaaGreatDoorTwoSmall
import Derived.Test.YtpliknofjgbfjaaGreatDoorWordRows
import Derived.Test.YtpliknofjgbfjaaGreatDoorRowOps
import Derived.Test.YtpliknofjgbfjaaGreatDoorRegionApp
import Derived.Deep.DeepCutAuto
import Derived.Deep.RegionWith
import Derived.StillTailTactics
namespace Go.Proofs.YtpliknofjgbfjaaGreatDoor
open Go.RowKit

def s8Cells (s : S8) : Array Value := (wordCells s.words).toArray
theorem s8_get (s : S8) {i : Nat} (h : i < 8) : (s8Cells s)[i]? = some (.int .u32 ((s.words.getD i 0 : Nat) : Int)) := words_get (l := s.words) h
/-- What stays in place within a block: the state's row, the numbers of the rounds. -/
def Keep2 (w0 w : World) (g gk : Nat) (H : Array Value) : Prop := KeepH w0 w g H ∧ Blk w gk 66 keyCells ∧ w0.heap.size ≤ gk ∧ gk ≠ g
theorem Keep2.new {w0 w w' : World} {g gk : Nat} {H : Array Value} (h : Keep2 w0 w g gk H) (hg : w.grownBy w' none) : Keep2 w0 w' g gk H :=
  ⟨h.1.new hg, h.2.1.grown hg (by intro e; cases e), h.2.2⟩
theorem Keep2.row {w0 w w' : World} {g gk : Nat} {H : Array Value} {v : Value} (h : Keep2 w0 w g gk H) (hg : w.grownBy w' v.ownBlock) (ho : ∀ k, v.ownBlock = some k → w0.heap.size ≤ k) (hne : some g ≠ v.ownBlock) (hnk : some gk ≠ v.ownBlock) : Keep2 w0 w' g gk H :=
  ⟨h.1.row hg ho hne, h.2.1.grown hg hnk, h.2.2⟩
theorem keep2_new (w w2 : World) (A : Array Value) (hb : Below ((w.alloc (.cells A 66)).alloc (.cells keyCells 66)).heap.size ((w.alloc (.cells A 66)).alloc (.cells keyCells 66)) w2) : Keep2 w w2 w.heap.size (w.heap.size + 1) A := by
  have h1 : Blk ((w.alloc (.cells A 66)).alloc (.cells keyCells 66)) w.heap.size 66 A := (Blk.new w _ A).alloc _
  have h2 : Blk ((w.alloc (.cells A 66)).alloc (.cells keyCells 66)) (w.heap.size + 1) 66 keyCells := by
    have := Blk.new (w.alloc (.cells A 66)) 66 keyCells
    simpa using this
  have h3 : Below w.heap.size w ((w.alloc (.cells A 66)).alloc (.cells keyCells 66)) := ((Below.refl _ _).alloc (Nat.le_refl _) _).alloc (by simp) _
  exact ⟨⟨h1.below hb h1.lt, Nat.le_refl _, h3.trans (hb.mono h3.size)⟩, h2.below hb h2.lt, by omega, by omega⟩
/-- A state of which the first i words have been raised. -/
def upCells (s z : S8) (i : Nat) : Array Value := (wordCells ((s.plus z).words.take i ++ s.words.drop i)).toArray
theorem upCells_zero (s z : S8) : upCells s z 0 = s8Cells s := rfl
theorem upCells_all (s z : S8) : upCells s z 8 = s8Cells (s.plus z) := rfl
theorem upCells_get (s z : S8) {i : Nat} (h : i < 8) : (upCells s z i)[i]? = some (.int .u32 ((s.words.getD i 0 : Nat) : Int)) := by
  match i, h with
  | 0, _ => rfl
  | 1, _ => rfl
  | 2, _ => rfl
  | 3, _ => rfl
  | 4, _ => rfl
  | 5, _ => rfl
  | 6, _ => rfl
  | 7, _ => rfl
theorem upCells_set (s z : S8) {i : Nat} (h : i < 8) : (upCells s z i).setIfInBounds i (.int .u32 ((addW (s.words.getD i 0) (z.words.getD i 0) : Nat) : Int)) = upCells s z (i + 1) := by
  match i, h with
  | 0, _ => rfl
  | 1, _ => rfl
  | 2, _ => rfl
  | 3, _ => rfl
  | 4, _ => rfl
  | 5, _ => rfl
  | 6, _ => rfl
  | 7, _ => rfl
theorem words2_next_later {p : Nat → UInt8} {l : List Nat} {j : Nat} (h : ¬ j < 16) : next2 p l j = addW (addW (addW (l.getD (j - 16) 0) (l.getD (j - 7) 0)) (low0 (l.getD (j - 15) 0))) (low1 (l.getD (j - 2) 0)) := by
  unfold next2
  rw [if_neg h]
theorem shr3 (x : Nat) : (x : Int) / 8 = ((x >>> 3 : Nat) : Int) := by rw [Nat.shiftRight_eq_div_pow]; show (x : Int) / 8 = ((x / 8 : Nat) : Int); omega
theorem shr10 (x : Nat) : (x : Int) / 1024 = ((x >>> 10 : Nat) : Int) := by rw [Nat.shiftRight_eq_div_pow]; show (x : Int) / 1024 = ((x / 1024 : Nat) : Int); omega
theorem cell_far (w : World) {g b : Nat} (h : b ≠ g) (i k : Nat) (v : Value) : (w.setCell ⟨g, k, none⟩ v).cell? ⟨b, i, none⟩ = w.cell? ⟨b, i, none⟩ := by
  have hb := Below.heap_setCell w ⟨g, k, none⟩ v b h
  simp [World.cell?, hb]
theorem words8_lt {s : S8} (h : s.ok) {i : Nat} (hi : i < 8) : s.words.getD i 0 < 4294967296 := by
  match i, hi with
  | 0, _ => exact h.1.1
  | 1, _ => exact h.1.2.1
  | 2, _ => exact h.1.2.2.1
  | 3, _ => exact h.1.2.2.2
  | 4, _ => exact h.2.1
  | 5, _ => exact h.2.2.1
  | 6, _ => exact h.2.2.2.1
  | 7, _ => exact h.2.2.2.2
theorem words8_some (s : S8) {i : Nat} (hi : i < 8) : s.words[i]? = some (s.words.getD i 0) := by
  match i, hi with
  | 0, _ => rfl
  | 1, _ => rfl
  | 2, _ => rfl
  | 3, _ => rfl
  | 4, _ => rfl
  | 5, _ => rfl
  | 6, _ => rfl
  | 7, _ => rfl
theorem words8_bytes (s : S8) {j : Nat} (h : j < 8) : ((s.words.take j).flatMap fun x => highB x 4).length = 4 * j := by
  match j, h with
  | 0, _ => rfl
  | 1, _ => rfl
  | 2, _ => rfl
  | 3, _ => rfl
  | 4, _ => rfl
  | 5, _ => rfl
  | 6, _ => rfl
  | 7, _ => rfl
theorem Keep2.put {w0 w : World} {g gk : Nat} {H : Array Value} (h : Keep2 w0 w g gk H) (i : Nat) (v : Value) : Keep2 w0 (w.setCell ⟨g, i, none⟩ v) g gk (H.setIfInBounds i v) :=
  ⟨⟨h.1.1.put i v, h.1.2.1, h.1.2.2.setCell h.1.2.1 v⟩, h.2.1.far h.2.2.2 v, h.2.2⟩
/-- What the operations of a later word leave. -/
def twoV (b : Value) (g j y0 y1 x y : Nat) : Nat → Value
  | 0 | 1 | 6 => b
  | 2 | 7 => .int .i64 (j : Int)
  | 3 => .int .i64 ((j - 16 : Nat) : Int)
  | 8 => .int .i64 ((j - 7 : Nat) : Int)
  | 4 => .pointer (some ⟨g, j - 16, none⟩)
  | 9 => .pointer (some ⟨g, j - 7, none⟩)
  | 5 => .int .u32 (y0 : Int)
  | 10 => .int .u32 (y1 : Int)
  | 11 => .int .u32 ((addW y0 y1 : Nat) : Int)
  | 12 | 14 | 17 => .int .u32 (x : Int)
  | 13 => .int .u32 ((rotl x 25 : Nat) : Int)
  | 15 => .int .u32 ((rotl x 14 : Nat) : Int)
  | 16 => .int .u32 ((rotl x 25 ^^^ rotl x 14 : Nat) : Int)
  | 18 => .int .u32 ((x >>> 3 : Nat) : Int)
  | 19 => .int .u32 ((low0 x : Nat) : Int)
  | 20 => .int .u32 ((addW (addW y0 y1) (low0 x) : Nat) : Int)
  | 21 | 23 | 26 => .int .u32 (y : Int)
  | 22 => .int .u32 ((rotl y 15 : Nat) : Int)
  | 24 => .int .u32 ((rotl y 13 : Nat) : Int)
  | 25 => .int .u32 ((rotl y 15 ^^^ rotl y 13 : Nat) : Int)
  | 27 => .int .u32 ((y >>> 10 : Nat) : Int)
  | 28 => .int .u32 ((low1 y : Nat) : Int)
  | _ => .int .u32 ((addW (addW (addW y0 y1) (low0 x)) (low1 y) : Nat) : Int)

set_option maxRecDepth 100000 in
set_option maxHeartbeats 40000000 in
theorem sha2_any (s : ByteArray) (w : World) (hs : s.size ≤ 1000000) :
    Calls Tryz.prog 30 #[.string s] w fun e w' => e = .returned (.string ⟨(twoB s.data.toList).toArray⟩) ∧ Below w.heap.size w w' := by
  obtain ⟨i0, hi, hz0, hz1, hz2⟩ := info_parts u32_info
  obtain ⟨PB, hPB⟩ : ∃ PB : ByteArray, PB = ⟨(padB s.size).toArray⟩ := ⟨_, rfl⟩
  have hPs : PB.size = (padB s.size).length := by rw [hPB]; show (padB s.size).toArray.size = _; simp
  have hpw := padB_whole s.size
  have hpl : (padB s.size).length ≤ 72 := by have := zerosP_lt s.size; rw [padB_length]; omega
  rw [← hPs] at hpw hpl
  have HP : Hid (∀ w, Calls Tryz.prog 52 #[.int .i64 (s.size : Int)] w fun e w' => e = .returned (.string PB) ∧ Below w.heap.size w w') := Lib.hid (fun w => by rw [hPB]; exact refpad_any s.size w (by omega))
  obtain ⟨M, hM⟩ : ∃ M, M = s ++ PB := ⟨_, rfl⟩
  have hMs : M.size = s.size + PB.size := by rw [hM, ByteArray.size_append]
  have HMD : Hid (M.data.toList = s.data.toList ++ padB s.size) := Lib.hid (by rw [hM, hPB, ByteArray.data_append, Array.toList_append])
  obtain ⟨Q, hQ⟩ : ∃ Q, Q = M.size / 64 := ⟨_, rfl⟩
  have hMQ : M.size = 64 * Q := by omega
  have hcat : s ++ PB = M := hM.symm
  have hl1 : s.size + PB.size ≤ 9223372036854775807 := by omega
  have hQ1 : Q ≤ 100000 := by omega
  have HQ := Lib.hid hQ
  have HMQ := Lib.hid hMQ
  clear hPB hPs hpw hM hQ hMs hMQ
  go_enter Tryz.func30, Tryz.ntmps30
  go_wp2_with (go_at_call 56; refine (keys_any _).mono ?_; rintro e w1 ⟨rfl, rfl⟩)
  go_wp2_with (go_at_call 52; refine (HP.out _).mono ?_; rintro e w2 ⟨rfl, hb2⟩)
  have HK1 := Lib.hid (keep2_new w w2 (s8Cells (hash2 M.data.toList 0)) hb2)
  clear hb2
  go_wp2_with fail
  clear hcat hl1
  obtain ⟨gk, hgk⟩ : ∃ gk, gk = w.heap.size + 1 := ⟨_, rfl⟩
  obtain ⟨g, hg⟩ : ∃ g, g = w.heap.size := ⟨_, rfl⟩
  rw [← hgk, ← hg] at HK1
  rw [← hgk, ← hg]
  have HGG := Lib.hid (And.intro hg hgk)
  clear hg hgk
  go_loopw [5] (fun a wr => ∃ q : Nat, q ≤ Q ∧ (∃ A : Nat, A = 64 * q ∧ a = .int .i64 (A : Int)) ∧ Keep2 w wr g gk (s8Cells (hash2 M.data.toList q))) (fun a _ => 64 * Q - (intOf a).toNat)
  case atStart => exact ⟨0, by omega, ⟨0, rfl, rfl⟩, HK1.out⟩
  case round =>
    clear HK1
    obtain ⟨q, hq, ⟨A, hA, rfl⟩, hk⟩ := hrel
    have HK := Lib.hid hk
    have HA := Lib.hid hA
    have hA1 : A ≤ 6400000 := by omega
    clear hk
    by_cases hlt : q < Q
    · have hAM : A + 64 ≤ M.size := by have := HMQ.out; omega
      have hAMI : (A : Int) < (M.size : Int) := by omega
      clear hA
      obtain ⟨H, hH⟩ : ∃ H, H = s8Cells (hash2 M.data.toList q) := ⟨_, rfl⟩
      rw [← hH] at HK
      have HH := Lib.hid hH
      clear hH
      go_wp2_with fail
      go_loopw [6, 7] (fun v i w2 => ∃ j : Nat, j ≤ 64 ∧ i = .int .i64 (j : Int) ∧ w2.ownsRow w.heap.size 66 1 v j (wordCells (words2 (blockB M.data.toList q) j)) ∧ some g ≠ v.ownBlock ∧ some gk ≠ v.ownBlock ∧ Keep2 w w2 g gk H) (fun _ i _ => 64 - (intOf i).toNat)
      case atStart => exact ⟨0, by omega, rfl, World.ownsRow_nil _ _ _ _, by simp [Value.ownBlock], by simp [Value.ownBlock], HK.out⟩
      case round =>
        obtain ⟨j, hj, rfl, hown, hne, hnk, hk2⟩ := hrel
        have HOWN := Lib.hid hown
        have HNE := Lib.hid (And.intro hne hnk)
        have HK2 := Lib.hid hk2
        clear hown hne hnk hk2
        by_cases hj64 : j < 64
        · by_cases hj16 : j < 16
          · have HL : Hid ((wordCells (words2 (blockB M.data.toList q) j)).length = j) := Lib.hid (by unfold wordCells; simp [words2_length])
            obtain ⟨c, hc⟩ : ∃ c : Nat, c = A + 4 * j := ⟨_, rfl⟩
            have hcI : (A : Int) + 4 * (j : Int) = (c : Int) := by omega
            have hc1 : c + 4 ≤ M.size := by omega
            obtain ⟨X, hX⟩ : ∃ X, X = M.extract c (c + 4) := ⟨_, rfl⟩
            have hex : M.extract c (c + 4) = X := hX.symm
            have hXs : X.size = 4 := by rw [hX, ByteArray.size_extract]; omega
            obtain ⟨y, hy⟩ : ∃ y, y = next2 (blockB M.data.toList q) (words2 (blockB M.data.toList q) j) j := ⟨_, rfl⟩
            have HW : Hid (∀ w3, Calls Tryz.prog 53 #[.string X] w3 fun e w' => e = .returned (.int .u32 (y : Int)) ∧ ∃ d, w' = w3.drewN d) := Lib.hid (fun w3 => by
              have := word_any X w3 hXs
              rw [hX, hc, HA.out, wordB_block M q j] at this
              rw [hy, hX, hc, HA.out]
              unfold next2
              rw [if_pos hj16]
              exact this)
            have HE : Hid (wordCells (words2 (blockB M.data.toList q) (j + 1)) = wordCells (words2 (blockB M.data.toList q) j) ++ [.int .u32 (y : Int)]) := Lib.hid (by rw [words2_next, ← hy]; unfold wordCells; simp)
            obtain ⟨WL, hWL⟩ : ∃ WL, WL = wordCells (words2 (blockB M.data.toList q) j) := ⟨_, rfl⟩
            rw [← hWL] at HE HOWN HL
            have hsl := slice_text wr M X c hc1 hex
            clear hc hX hXs hy hWL
            go_wp2_with (first | (go_at_call 53; refine (HW.out _).mono ?_; rintro e w3 ⟨rfl, d, rfl⟩) | (at_builtin; refine wpList_append_lies _ rfl (.tmp 42) (.tmp 55) 77 rfl w.heap.size 66 i0 (.int .u32 0) 1 4 Tryz.underlying77 hi hz0 hz1 hz2 rfl (by omega) _ j _ rfl ((show (wr.drewN d).ownsRow _ _ _ _ _ _ from HOWN.out).alloc _) ⟨wr.heap.size, 0, none⟩ 1 1 [.int .u32 (y : Int)] rfl rfl ?c1 ?c2 (by omega) (by unfold maxLen; omega) (by omega) (by have := HK2.out.1.2.2.size; simp; omega) _ rfl ?_))
            case c1 =>
              intro a u ha
              match a, ha with
              | 0, ha => simp at ha; subst ha; simp [Addr.add]; exact (Blk.new (wr.drewN d) 66 #[.int .u32 (y : Int)]).cell 0
            case c2 => intro u hu; simp at hu; subst hu; rfl
            intro g2 cap w4 hown1 hg1 hor hlt1
            have HK4 := Lib.hid (Keep2.row (Keep2.new HK2.out ((by_drewN (by_refl _ _) d : wr.grownBy (wr.drewN d) none))|>.new (by_alloc (by_refl _ _) _)) hg1 (fun k hk => (HOWN.out.lt k hk).1) HNE.out.1 HNE.out.2)
            have hnew : ∀ k, k < wr.heap.size → some k ≠ u6.ownBlock → some k ≠ (Value.slice (some ⟨g2, 0, none⟩) (j + 1) cap).ownBlock := by
              intro k hk1 hk2 e
              have e : k = g2 := by simpa [Value.ownBlock] using e
              rcases hor with h | h
              · exact hk2 (by rw [h, e])
              · have h : g2 = wr.heap.size + 1 := h
                omega
            have HNE4 := Lib.hid (And.intro (hnew g HK2.out.1.1.lt HNE.out.1) (hnew gk HK2.out.2.1.lt HNE.out.2))
            rw [← HE.out] at hown1
            have HOW4 := Lib.hid hown1
            clear hown1 hg1 hor hlt1 hnew hsl
            go_wp2_with fail
            go_roundw
            case rel => exact ⟨j + 1, by omega, by go_num, HOW4.out, HNE4.out.1, HNE4.out.2, HK4.out⟩
            case measure => simp [intOf] <;> omega
          · obtain ⟨l, hl⟩ : ∃ l, l = words2 (blockB M.data.toList q) j := ⟨_, rfl⟩
            have hll : l.length = j := by rw [hl]; exact words2_length _ _
            have HN := Lib.hid (words2_next_later (p := blockB M.data.toList q) (l := l) hj16)
            have HE : Hid (wordCells (words2 (blockB M.data.toList q) (j + 1)) = wordCells l ++ [.int .u32 ((next2 (blockB M.data.toList q) l j : Nat) : Int)]) := Lib.hid (by rw [words2_next, ← hl]; unfold wordCells; simp)
            have hlt4 := fun i => getD_lt (words2_lt (blockB M.data.toList q) j) (by decide) i
            rw [← hl] at HOWN hlt4
            rw [HN.out] at HE
            obtain ⟨g', cap, hu6, hg0, hg1⟩ := HOWN.out.form (by omega)
            have hu6 : u6 = .slice (some ⟨g', 0, none⟩) j cap := hu6
            subst hu6
            have hcell : ∀ i, i < j → wr.cell? ⟨g', i, none⟩ = some (.int .u32 ((l.getD i 0 : Nat) : Int)) := fun i hi' => by
              have := HOWN.out.cells (g := g') rfl i (.int .u32 ((l.getD i 0 : Nat) : Int)) (by have h := words_get (l := l) (i := i) (by omega); simpa using h)
              rw [add_off, Nat.zero_add] at this
              exact this
            obtain ⟨ia, hia⟩ : ∃ ia, ia = j - 15 := ⟨_, rfl⟩
            obtain ⟨ib, hib⟩ : ∃ ib, ib = j - 2 := ⟨_, rfl⟩
            have wa : IntKind.i64.wrap ((j : Int) - 15) = (ia : Int) := by rw [IntWalk.i64_in _ (by omega)]; omega
            have wb : IntKind.i64.wrap ((j : Int) - 2) = (ib : Int) := by rw [IntWalk.i64_in _ (by omega)]; omega
            have ja : (j : Int) - 15 = (ia : Int) := by omega
            have jb : (j : Int) - 2 = (ib : Int) := by omega
            have la : (ia : Int) < (j : Int) := by omega
            have lb : (ib : Int) < (j : Int) := by omega
            have ca := hcell ia (by omega)
            have cb := hcell ib (by omega)
            have HCy0' := Lib.hid (hcell (j - 16) (by omega))
            have HCy1' := Lib.hid (hcell (j - 7) (by omega))
            have HXL := Lib.hid (hlt4 ia)
            have HYL := Lib.hid (hlt4 ib)
            rw [← hia, ← hib] at HE
            have HG1 := Lib.hid hg1
            have HLC := Lib.hid (show (wordCells l).length = j by unfold wordCells; simpa using hll)
            clear hlt4 hcell HN hia hib hl hll hg1
            generalize l.getD (j - 16) 0 = y0 at *
            generalize l.getD (j - 7) 0 = y1 at *
            generalize l.getD ia 0 = xx at *
            generalize l.getD ib 0 = yy at *
            go_wp2_with fail
            go_quiet (fail)
            clear wa wb ja jb la lb ca cb
            go_upto_region 14 with fail
            generalize hw5 : wr.drewN _ = w5
            have HOWN5 : Hid (w5.ownsRow w.heap.size 66 1 (.slice (some ⟨g', 0, none⟩) j cap) j (wordCells l)) := Lib.hid (by rw [← hw5]; exact HOWN.out)
            have HK5 : Hid (Keep2 w w5 g gk H) := Lib.hid (by rw [← hw5]; exact HK2.out.new (by_drewN (by_refl _ _) _))
            have hg15 : g' < w5.heap.size := by rw [← hw5]; exact HG1.out
            have hy0 : w5.cell? ⟨g', j - 16, none⟩ = some (.int .u32 (y0 : Int)) := by rw [← hw5]; exact HCy0'.out
            have hy1 : w5.cell? ⟨g', j - 7, none⟩ = some (.int .u32 (y1 : Int)) := by rw [← hw5]; exact HCy1'.out
            have hgr : ∀ i v, w5.cell? ⟨g', i, none⟩ = some v → ∀ w3 : World, w5.drew.grownBy w3 none → w3.cell? ⟨g', i, none⟩ = some v := fun i v h w3 hw3 => (Below.cell (below_by hw3) (p := ⟨g', i, none⟩) hg15).trans h
            have HCy0 := Lib.hid (hgr _ _ hy0)
            have HCy1 := Lib.hid (hgr _ _ hy1)
            clear hw5 hy0 hy1 hgr HCy0' HCy1' HOWN HK2 HG1 hg15
            refine wp_region_append 67 30 6 218 0 (twoV (.slice (some ⟨g', 0, none⟩) j cap) g' j y0 y1 xx yy) w.heap.size 77 66 i0 (.int .u32 0) (.slice (some ⟨g', 0, none⟩) j cap) j (wordCells l) [.int .u32 ((addW (addW (addW y0 y1) (low0 xx)) (low1 yy) : Nat) : Int)]
              (by kernel_rfl) (by kernel_rfl) rfl (by kernel_rfl) (by kernel_rfl) rfl (by omega) (by omega) Tryz.underlying77 hi hz0 hz1 (by omega) rfl HOWN5.out HK5.out.1.2.2.size (by simp) (by simp [Value.oneCell']) (by simp; omega)
              ?hops ?hbuild _ _ rfl rfl rfl rfl (by omega) rfl rfl rfl rfl rfl ?hK
            case hops =>
              intro i hi' y w3 hf hg hw
              rcases (show i = 0 ∨ i = 1 ∨ i = 2 ∨ i = 3 ∨ i = 4 ∨ i = 5 ∨ i = 6 ∨ i = 7 ∨ i = 8 ∨ i = 9 ∨ i = 10 ∨ i = 11 ∨ i = 12 ∨ i = 13 ∨ i = 14 ∨ i = 15 ∨ i = 16 ∨ i = 17 ∨ i = 18 ∨ i = 19 ∨ i = 20 ∨ i = 21 ∨ i = 22 ∨ i = 23 ∨ i = 24 ∨ i = 25 ∨ i = 26 ∨ i = 27 ∨ i = 28 ∨ i = 29 by omega) with rfl | rfl | rfl | rfl | rfl | rfl | rfl | rfl | rfl | rfl | rfl | rfl | rfl | rfl | rfl | rfl | rfl | rfl | rfl | rfl | rfl | rfl | rfl | rfl | rfl | rfl | rfl | rfl | rfl | rfl
              · have e0 : y.tmps[6]?.getD undef = .slice (some ⟨g', 0, none⟩) j cap := by rw [hf.2.2 6 (by omega)]; rfl
                clear hf hw hg
                refine wpOp_value (v := twoV (.slice (some ⟨g', 0, none⟩) j cap) g' j y0 y1 xx yy 0) (w' := w3) rfl rfl ?_ ⟨rfl, by_refl _ _⟩
                go_simp
                rfl
              · have e0 : y.tmps[6]?.getD undef = .slice (some ⟨g', 0, none⟩) j cap := by rw [hf.2.2 6 (by omega)]; rfl
                clear hf hw hg
                refine wpOp_value (v := twoV (.slice (some ⟨g', 0, none⟩) j cap) g' j y0 y1 xx yy 1) (w' := w3) rfl rfl ?_ ⟨rfl, by_refl _ _⟩
                go_simp
                rfl
              · have e0 : y.tmps[7]?.getD undef = .int .i64 (j : Int) := by rw [hf.2.2 7 (by omega)]; rfl
                clear hf hw hg
                refine wpOp_value (v := twoV (.slice (some ⟨g', 0, none⟩) j cap) g' j y0 y1 xx yy 2) (w' := w3) rfl rfl ?_ ⟨rfl, by_refl _ _⟩
                go_simp
                rfl
              · have e1 : y.tmps[69]?.getD undef = .int .i64 (j : Int) := hw 2 (of_decide_eq_true (by kernel_rfl)) (by omega)
                have w0 : IntKind.i64.wrap ((j : Int) - 16) = ((j - 16 : Nat) : Int) := by rw [IntWalk.i64_in _ (by omega)]; omega
                clear hf hw hg
                refine wpOp_value (v := twoV (.slice (some ⟨g', 0, none⟩) j cap) g' j y0 y1 xx yy 3) (w' := w3) rfl rfl ?_ ⟨rfl, by_refl _ _⟩
                go_simp
                rfl
              · obtain ⟨ix, hix⟩ : ∃ ix, ix = j - 16 := ⟨_, rfl⟩
                have e1 : y.tmps[70]?.getD undef = .int .i64 ((j - 16 : Nat) : Int) := hw 3 (of_decide_eq_true (by kernel_rfl)) (by omega)
                have e0 : y.tmps[68]?.getD undef = .slice (some ⟨g', 0, none⟩) j cap := hw 1 (of_decide_eq_true (by kernel_rfl)) (by omega)
                have hxl : (ix : Int) < (j : Int) := by omega
                rw [← hix] at e1
                have HV : Hid (twoV (.slice (some ⟨g', 0, none⟩) j cap) g' j y0 y1 xx yy 4 = .pointer (some ⟨g', ix, none⟩)) := Lib.hid (by rw [hix]; rfl)
                rw [HV.out]
                clear hf hw hg hix
                refine wpOp_value (v := .pointer (some ⟨g', ix, none⟩)) (w' := w3) rfl rfl ?_ ⟨rfl, by_refl _ _⟩
                go_simp
              · have e1 : y.tmps[71]?.getD undef = .pointer (some ⟨g', j - 16, none⟩) := hw 4 (of_decide_eq_true (by kernel_rfl)) (by omega)
                have hcx : w3.cell? ⟨g', j - 16, none⟩ = some (.int .u32 (y0 : Int)) := HCy0.out w3 hg
                clear hf hw hg
                refine wpOp_value (v := twoV (.slice (some ⟨g', 0, none⟩) j cap) g' j y0 y1 xx yy 5) (w' := w3) rfl rfl ?_ ⟨rfl, by_refl _ _⟩
                go_simp
                rfl
              · have e0 : y.tmps[6]?.getD undef = .slice (some ⟨g', 0, none⟩) j cap := by rw [hf.2.2 6 (by omega)]; rfl
                clear hf hw hg
                refine wpOp_value (v := twoV (.slice (some ⟨g', 0, none⟩) j cap) g' j y0 y1 xx yy 6) (w' := w3) rfl rfl ?_ ⟨rfl, by_refl _ _⟩
                go_simp
                rfl
              · have e0 : y.tmps[7]?.getD undef = .int .i64 (j : Int) := by rw [hf.2.2 7 (by omega)]; rfl
                clear hf hw hg
                refine wpOp_value (v := twoV (.slice (some ⟨g', 0, none⟩) j cap) g' j y0 y1 xx yy 7) (w' := w3) rfl rfl ?_ ⟨rfl, by_refl _ _⟩
                go_simp
                rfl
              · have e1 : y.tmps[74]?.getD undef = .int .i64 (j : Int) := hw 7 (of_decide_eq_true (by kernel_rfl)) (by omega)
                have w0 : IntKind.i64.wrap ((j : Int) - 7) = ((j - 7 : Nat) : Int) := by rw [IntWalk.i64_in _ (by omega)]; omega
                clear hf hw hg
                refine wpOp_value (v := twoV (.slice (some ⟨g', 0, none⟩) j cap) g' j y0 y1 xx yy 8) (w' := w3) rfl rfl ?_ ⟨rfl, by_refl _ _⟩
                go_simp
                rfl
              · obtain ⟨ix, hix⟩ : ∃ ix, ix = j - 7 := ⟨_, rfl⟩
                have e1 : y.tmps[75]?.getD undef = .int .i64 ((j - 7 : Nat) : Int) := hw 8 (of_decide_eq_true (by kernel_rfl)) (by omega)
                have e0 : y.tmps[73]?.getD undef = .slice (some ⟨g', 0, none⟩) j cap := hw 6 (of_decide_eq_true (by kernel_rfl)) (by omega)
                have hxl : (ix : Int) < (j : Int) := by omega
                rw [← hix] at e1
                have HV : Hid (twoV (.slice (some ⟨g', 0, none⟩) j cap) g' j y0 y1 xx yy 9 = .pointer (some ⟨g', ix, none⟩)) := Lib.hid (by rw [hix]; rfl)
                rw [HV.out]
                clear hf hw hg hix
                refine wpOp_value (v := .pointer (some ⟨g', ix, none⟩)) (w' := w3) rfl rfl ?_ ⟨rfl, by_refl _ _⟩
                go_simp
              · have e1 : y.tmps[76]?.getD undef = .pointer (some ⟨g', j - 7, none⟩) := hw 9 (of_decide_eq_true (by kernel_rfl)) (by omega)
                have hcx : w3.cell? ⟨g', j - 7, none⟩ = some (.int .u32 (y1 : Int)) := HCy1.out w3 hg
                clear hf hw hg
                refine wpOp_value (v := twoV (.slice (some ⟨g', 0, none⟩) j cap) g' j y0 y1 xx yy 10) (w' := w3) rfl rfl ?_ ⟨rfl, by_refl _ _⟩
                go_simp
                rfl
              · have e1 : y.tmps[72]?.getD undef = .int .u32 (y0 : Int) := hw 5 (of_decide_eq_true (by kernel_rfl)) (by omega)
                have e2 : y.tmps[77]?.getD undef = .int .u32 (y1 : Int) := hw 10 (of_decide_eq_true (by kernel_rfl)) (by omega)
                have HX := Lib.hid (addW_cast y0 y1)
                clear hf hw hg
                refine wpOp_value (v := twoV (.slice (some ⟨g', 0, none⟩) j cap) g' j y0 y1 xx yy 11) (w' := w3) rfl rfl ?_ ⟨rfl, by_refl _ _⟩
                go_simp
                exact congrArg (Value.int .u32) HX.out.symm
              · have e0 : y.tmps[8]?.getD undef = .int .u32 (xx : Int) := by rw [hf.2.2 8 (by omega)]; rfl
                clear hf hw hg
                refine wpOp_value (v := twoV (.slice (some ⟨g', 0, none⟩) j cap) g' j y0 y1 xx yy 12) (w' := w3) rfl rfl ?_ ⟨rfl, by_refl _ _⟩
                go_simp
                rfl
              · have e1 : y.tmps[79]?.getD undef = .int .u32 (xx : Int) := hw 12 (of_decide_eq_true (by kernel_rfl)) (by omega)
                have HT := Lib.hid ((turn_two xx 25 w3 HXL.out (by omega)).mono (fun e w4 ⟨he, d, hd⟩ => show ∃ v, e = Ending.returned v ∧ y.put (some (67 + 13)) v = y.put (some (67 + 13)) (twoV (.slice (some ⟨g', 0, none⟩) j cap) g' j y0 y1 xx yy 13) ∧ w3.grownBy w4 none from ⟨_, he, rfl, by rw [hd]; exact by_drewN (by_refl _ _) d⟩))
                clear hf hw hg
                refine wpOp_call rfl rfl ?_ HT.out
                go_simp
              · have e0 : y.tmps[8]?.getD undef = .int .u32 (xx : Int) := by rw [hf.2.2 8 (by omega)]; rfl
                clear hf hw hg
                refine wpOp_value (v := twoV (.slice (some ⟨g', 0, none⟩) j cap) g' j y0 y1 xx yy 14) (w' := w3) rfl rfl ?_ ⟨rfl, by_refl _ _⟩
                go_simp
                rfl
              · have e1 : y.tmps[81]?.getD undef = .int .u32 (xx : Int) := hw 14 (of_decide_eq_true (by kernel_rfl)) (by omega)
                have HT := Lib.hid ((turn_two xx 14 w3 HXL.out (by omega)).mono (fun e w4 ⟨he, d, hd⟩ => show ∃ v, e = Ending.returned v ∧ y.put (some (67 + 15)) v = y.put (some (67 + 15)) (twoV (.slice (some ⟨g', 0, none⟩) j cap) g' j y0 y1 xx yy 15) ∧ w3.grownBy w4 none from ⟨_, he, rfl, by rw [hd]; exact by_drewN (by_refl _ _) d⟩))
                clear hf hw hg
                refine wpOp_call rfl rfl ?_ HT.out
                go_simp
              · have e1 : y.tmps[80]?.getD undef = .int .u32 ((rotl xx 25 : Nat) : Int) := hw 13 (of_decide_eq_true (by kernel_rfl)) (by omega)
                have e2 : y.tmps[82]?.getD undef = .int .u32 ((rotl xx 14 : Nat) : Int) := hw 15 (of_decide_eq_true (by kernel_rfl)) (by omega)
                have HX := Lib.hid (u32_xor_nat (rotl xx 25) (rotl xx 14) (rotl_lt _ 25 HXL.out (by decide)) (rotl_lt _ 14 HXL.out (by decide)))
                clear hf hw hg
                refine wpOp_value (v := twoV (.slice (some ⟨g', 0, none⟩) j cap) g' j y0 y1 xx yy 16) (w' := w3) rfl rfl ?_ ⟨rfl, by_refl _ _⟩
                go_simp
                exact congrArg (Value.int .u32) HX.out
              · have e0 : y.tmps[8]?.getD undef = .int .u32 (xx : Int) := by rw [hf.2.2 8 (by omega)]; rfl
                clear hf hw hg
                refine wpOp_value (v := twoV (.slice (some ⟨g', 0, none⟩) j cap) g' j y0 y1 xx yy 17) (w' := w3) rfl rfl ?_ ⟨rfl, by_refl _ _⟩
                go_simp
                rfl
              · have e1 : y.tmps[84]?.getD undef = .int .u32 (xx : Int) := hw 17 (of_decide_eq_true (by kernel_rfl)) (by omega)
                have HX := Lib.hid (shr3 xx)
                clear hf hw hg
                refine wpOp_value (v := twoV (.slice (some ⟨g', 0, none⟩) j cap) g' j y0 y1 xx yy 18) (w' := w3) rfl rfl ?_ ⟨rfl, by_refl _ _⟩
                go_simp
                exact congrArg (Value.int .u32) HX.out
              · have e1 : y.tmps[83]?.getD undef = .int .u32 ((rotl xx 25 ^^^ rotl xx 14 : Nat) : Int) := hw 16 (of_decide_eq_true (by kernel_rfl)) (by omega)
                have e2 : y.tmps[85]?.getD undef = .int .u32 ((xx >>> 3 : Nat) : Int) := hw 18 (of_decide_eq_true (by kernel_rfl)) (by omega)
                have HX := Lib.hid (u32_xor_nat (rotl xx 25 ^^^ rotl xx 14) (xx >>> 3) (xor_lt (rotl_lt _ 25 HXL.out (by decide)) (rotl_lt _ 14 HXL.out (by decide))) (shr_lt 3 HXL.out))
                clear hf hw hg
                refine wpOp_value (v := twoV (.slice (some ⟨g', 0, none⟩) j cap) g' j y0 y1 xx yy 19) (w' := w3) rfl rfl ?_ ⟨rfl, by_refl _ _⟩
                go_simp
                exact congrArg (Value.int .u32) HX.out
              · have e1 : y.tmps[78]?.getD undef = .int .u32 ((addW y0 y1 : Nat) : Int) := hw 11 (of_decide_eq_true (by kernel_rfl)) (by omega)
                have e2 : y.tmps[86]?.getD undef = .int .u32 ((low0 xx : Nat) : Int) := hw 19 (of_decide_eq_true (by kernel_rfl)) (by omega)
                have HX := Lib.hid (addW_cast (addW y0 y1) (low0 xx))
                clear hf hw hg
                refine wpOp_value (v := twoV (.slice (some ⟨g', 0, none⟩) j cap) g' j y0 y1 xx yy 20) (w' := w3) rfl rfl ?_ ⟨rfl, by_refl _ _⟩
                go_simp
                exact congrArg (Value.int .u32) HX.out.symm
              · have e0 : y.tmps[9]?.getD undef = .int .u32 (yy : Int) := by rw [hf.2.2 9 (by omega)]; rfl
                clear hf hw hg
                refine wpOp_value (v := twoV (.slice (some ⟨g', 0, none⟩) j cap) g' j y0 y1 xx yy 21) (w' := w3) rfl rfl ?_ ⟨rfl, by_refl _ _⟩
                go_simp
                rfl
              · have e1 : y.tmps[88]?.getD undef = .int .u32 (yy : Int) := hw 21 (of_decide_eq_true (by kernel_rfl)) (by omega)
                have HT := Lib.hid ((turn_two yy 15 w3 HYL.out (by omega)).mono (fun e w4 ⟨he, d, hd⟩ => show ∃ v, e = Ending.returned v ∧ y.put (some (67 + 22)) v = y.put (some (67 + 22)) (twoV (.slice (some ⟨g', 0, none⟩) j cap) g' j y0 y1 xx yy 22) ∧ w3.grownBy w4 none from ⟨_, he, rfl, by rw [hd]; exact by_drewN (by_refl _ _) d⟩))
                clear hf hw hg
                refine wpOp_call rfl rfl ?_ HT.out
                go_simp
              · have e0 : y.tmps[9]?.getD undef = .int .u32 (yy : Int) := by rw [hf.2.2 9 (by omega)]; rfl
                clear hf hw hg
                refine wpOp_value (v := twoV (.slice (some ⟨g', 0, none⟩) j cap) g' j y0 y1 xx yy 23) (w' := w3) rfl rfl ?_ ⟨rfl, by_refl _ _⟩
                go_simp
                rfl
              · have e1 : y.tmps[90]?.getD undef = .int .u32 (yy : Int) := hw 23 (of_decide_eq_true (by kernel_rfl)) (by omega)
                have HT := Lib.hid ((turn_two yy 13 w3 HYL.out (by omega)).mono (fun e w4 ⟨he, d, hd⟩ => show ∃ v, e = Ending.returned v ∧ y.put (some (67 + 24)) v = y.put (some (67 + 24)) (twoV (.slice (some ⟨g', 0, none⟩) j cap) g' j y0 y1 xx yy 24) ∧ w3.grownBy w4 none from ⟨_, he, rfl, by rw [hd]; exact by_drewN (by_refl _ _) d⟩))
                clear hf hw hg
                refine wpOp_call rfl rfl ?_ HT.out
                go_simp
              · have e1 : y.tmps[89]?.getD undef = .int .u32 ((rotl yy 15 : Nat) : Int) := hw 22 (of_decide_eq_true (by kernel_rfl)) (by omega)
                have e2 : y.tmps[91]?.getD undef = .int .u32 ((rotl yy 13 : Nat) : Int) := hw 24 (of_decide_eq_true (by kernel_rfl)) (by omega)
                have HX := Lib.hid (u32_xor_nat (rotl yy 15) (rotl yy 13) (rotl_lt _ 15 HYL.out (by decide)) (rotl_lt _ 13 HYL.out (by decide)))
                clear hf hw hg
                refine wpOp_value (v := twoV (.slice (some ⟨g', 0, none⟩) j cap) g' j y0 y1 xx yy 25) (w' := w3) rfl rfl ?_ ⟨rfl, by_refl _ _⟩
                go_simp
                exact congrArg (Value.int .u32) HX.out
              · have e0 : y.tmps[9]?.getD undef = .int .u32 (yy : Int) := by rw [hf.2.2 9 (by omega)]; rfl
                clear hf hw hg
                refine wpOp_value (v := twoV (.slice (some ⟨g', 0, none⟩) j cap) g' j y0 y1 xx yy 26) (w' := w3) rfl rfl ?_ ⟨rfl, by_refl _ _⟩
                go_simp
                rfl
              · have e1 : y.tmps[93]?.getD undef = .int .u32 (yy : Int) := hw 26 (of_decide_eq_true (by kernel_rfl)) (by omega)
                have HX := Lib.hid (shr10 yy)
                clear hf hw hg
                refine wpOp_value (v := twoV (.slice (some ⟨g', 0, none⟩) j cap) g' j y0 y1 xx yy 27) (w' := w3) rfl rfl ?_ ⟨rfl, by_refl _ _⟩
                go_simp
                exact congrArg (Value.int .u32) HX.out
              · have e1 : y.tmps[92]?.getD undef = .int .u32 ((rotl yy 15 ^^^ rotl yy 13 : Nat) : Int) := hw 25 (of_decide_eq_true (by kernel_rfl)) (by omega)
                have e2 : y.tmps[94]?.getD undef = .int .u32 ((yy >>> 10 : Nat) : Int) := hw 27 (of_decide_eq_true (by kernel_rfl)) (by omega)
                have HX := Lib.hid (u32_xor_nat (rotl yy 15 ^^^ rotl yy 13) (yy >>> 10) (xor_lt (rotl_lt _ 15 HYL.out (by decide)) (rotl_lt _ 13 HYL.out (by decide))) (shr_lt 10 HYL.out))
                clear hf hw hg
                refine wpOp_value (v := twoV (.slice (some ⟨g', 0, none⟩) j cap) g' j y0 y1 xx yy 28) (w' := w3) rfl rfl ?_ ⟨rfl, by_refl _ _⟩
                go_simp
                exact congrArg (Value.int .u32) HX.out
              · have e1 : y.tmps[87]?.getD undef = .int .u32 ((addW (addW y0 y1) (low0 xx) : Nat) : Int) := hw 20 (of_decide_eq_true (by kernel_rfl)) (by omega)
                have e2 : y.tmps[95]?.getD undef = .int .u32 ((low1 yy : Nat) : Int) := hw 28 (of_decide_eq_true (by kernel_rfl)) (by omega)
                have HX := Lib.hid (addW_cast (addW (addW y0 y1) (low0 xx)) (low1 yy))
                clear hf hw hg
                refine wpOp_value (v := twoV (.slice (some ⟨g', 0, none⟩) j cap) g' j y0 y1 xx yy 29) (w' := w3) rfl rfl ?_ ⟨rfl, by_refl _ _⟩
                go_simp
                exact congrArg (Value.int .u32) HX.out.symm
            case hbuild =>
              intro y w3 hw
              have e1 : y.tmps[96]?.getD undef = .int .u32 ((addW (addW (addW y0 y1) (low0 xx)) (low1 yy) : Nat) : Int) := hw 29 (of_decide_eq_true (by kernel_rfl)) (by omega)
              refine ⟨_, rfl, rfl, rfl, ?_⟩
              clear hw
              go_simp
            case hK =>
              intro y w4 g2 cap2 h1 h2 h3 h4 h5 h6 h7
              have HO := Lib.hid h5
              have HK4 := Lib.hid (Keep2.row (Keep2.new HK5.out (by_drew (by_refl _ _))) h6 (fun k hk => (HOWN5.out.lt k hk).1) HNE.out.1 HNE.out.2)
              have hnew : ∀ k, k < w5.heap.size → some k ≠ (Value.slice (some ⟨g', 0, none⟩) j cap).ownBlock → some k ≠ (Value.slice (some ⟨g2, 0, none⟩) (j + 1) cap2).ownBlock := by
                intro k hk1 hk2 e
                have e : k = g2 := by simpa [Value.ownBlock] using e
                rcases h7 with h | h
                · exact hk2 (by rw [h, e])
                · omega
              have HNE4 := Lib.hid (And.intro (hnew g HK5.out.1.1.lt HNE.out.1) (hnew gk HK5.out.2.1.lt HNE.out.2))
              clear h5 h6 h7 hnew
              obtain ⟨ys, hys, rfl⟩ := frame_again 67 32 6 _ h1 (by exact h2) (fun s e k => h3 s e (by omega)) h4 (by omega) (by show 99 ≤ 218; omega)
              obtain ⟨k0, k1, k2, k3, k4, k5, k6, k7, k8, k9, k10, k11, k12, k13, k14, k15, k16, k17, k18, k19, k20, k21, k22, k23, k24, k25, k26, k27, k28, k29, k30, k31, rfl⟩ := list32 ys hys
              clear h1 h2 h3 h4 hys
              simp only [List.take_succ_cons, List.take_zero, List.drop_succ_cons, List.drop_zero, List.cons_append, List.nil_append, List.set_cons_zero, List.set_cons_succ]
              go_wp2_with fail
              refine ⟨?_, ?measure⟩
              · exact ⟨j + 1, by omega, by go_num, by rw [HE.out]; exact HO.out, HNE4.out.1, HNE4.out.2, HK4.out⟩
              case measure => simp [intOf] <;> omega
        · obtain rfl : j = 64 := by omega
          obtain ⟨L, hL⟩ : ∃ L, L = words2 (blockB M.data.toList q) 64 := ⟨_, rfl⟩
          have HLen : Hid (L.length = 64) := Lib.hid (by rw [hL]; exact words2_length _ 64)
          obtain ⟨x0, hx0⟩ : ∃ x0, x0 = hash2 M.data.toList q := ⟨_, rfl⟩
          have HNX : Hid (hash2 M.data.toList (q + 1) = x0.plus (steps2 L 64 x0)) := Lib.hid (by rw [hL, hx0]; rfl)
          have HOK : Hid x0.ok := Lib.hid (by rw [hx0]; exact hash2_ok _ _)
          rw [← hx0] at HH
          rw [← hL] at HOWN
          clear hx0 hL
          obtain ⟨g', cap, hu6, hg0, hg1⟩ := HOWN.out.form (by omega)
          have hu6 : u6 = .slice (some ⟨g', 0, none⟩) 64 cap := hu6
          subst hu6
          have HG1 := Lib.hid hg1
          clear hg1
          go_wp2_with (at_builtin; refine wpList_append_lies _ rfl (.const (.slice none 0 0)) (.tmp 99) 77 rfl w.heap.size 66 i0 (.int .u32 0) 1 4 Tryz.underlying77 hi hz0 hz1 hz2 rfl (by omega) (.slice none 0 0) 0 [] rfl (World.ownsRow_nil _ _ _ _) ⟨g, 0, none⟩ 8 8 (wordCells x0.words) rfl rfl ?c1 ?c2 (by omega) (by unfold maxLen; omega) (by omega) HK2.out.1.2.2.size _ rfl ?_)
          case c1 =>
            intro a u ha
            rw [add_off, HK2.out.1.1.cell, HH.out, Nat.zero_add]
            unfold s8Cells
            rw [List.getElem?_toArray]
            exact ha
          case c2 =>
            intro u hu
            obtain ⟨x, _, rfl⟩ := List.mem_map.1 hu
            rfl
          intro gv cv w4 hown1 hgr1 hor hlt1
          have hcv : ∀ k, k < 8 → w4.cell? ⟨gv, k, none⟩ = some (.int .u32 ((x0.words.getD k 0 : Nat) : Int)) := fun k hk => by
            have := hown1.cells (g := gv) rfl k (.int .u32 ((x0.words.getD k 0 : Nat) : Int)) (by have h := s8_get x0 hk; unfold s8Cells at h; rw [List.getElem?_toArray] at h; simpa using h)
            rw [add_off, Nat.zero_add] at this
            exact this
          have HCV := Lib.hid hcv
          have HLV := Lib.hid hlt1
          have HGV : Hid (gv ≠ g) := Lib.hid (by
            have := HK2.out.1.1.lt
            rcases hor with h | h
            · simp [Value.ownBlock] at h
            · omega)
          have HK4 := Lib.hid (Keep2.new HK2.out hgr1)
          have HOW4 := Lib.hid (own_kept HOWN.out hgr1)
          clear hown1 hgr1 hor hlt1 hcv HK2 HOWN HG1
          go_wp2_with fail
          go_loopw [10, 11] (fun v i w3 => ∃ (t : Nat) (x : S8) (gw cw : Nat), t ≤ 64 ∧ i = .int .i64 (t : Int) ∧ x = steps2 L t x0 ∧ v = .slice (some ⟨gw, 0, none⟩) 8 cw ∧ (∀ k, k < 8 → w3.cell? ⟨gw, k, none⟩ = some (.int .u32 ((x.words.getD k 0 : Nat) : Int))) ∧ gw < w3.heap.size ∧ gw ≠ g ∧ Keep2 w w3 g gk H ∧ w3.ownsRow w.heap.size 66 1 (.slice (some ⟨g', 0, none⟩) 64 cap) 64 (wordCells L)) (fun _ i _ => 64 - (intOf i).toNat)
          case atStart => exact ⟨0, x0, gv, _, by omega, rfl, rfl, rfl, HCV.out, HLV.out, HGV.out, HK4.out, HOW4.out⟩
          case round =>
            clear HCV HLV HK4 HOW4 HGV
            obtain ⟨t, x, gw, cw, ht, rfl, hx, rfl, hcv, hlv, hgw, hk3, hown3⟩ := hrel
            have HGW := Lib.hid hgw
            clear hgw
            have HK3 := Lib.hid hk3
            have HOW3 := Lib.hid hown3
            have HLV := Lib.hid hlv
            have hok : x.ok := by rw [hx]; exact steps2_ok L t HOK.out
            clear hk3 hown3 hlv
            by_cases ht64 : t < 64
            · have HN : Hid (steps2 L (t + 1) x0 = step2 (keysL.getD t 0) (L.getD t 0) x) := Lib.hid (by rw [hx]; rfl)
              clear hx
              have hcw : wr.cell? ⟨g', t, none⟩ = some (.int .u32 ((L.getD t 0 : Nat) : Int)) := by
                have := HOW3.out.cells (g := g') rfl t (.int .u32 ((L.getD t 0 : Nat) : Int)) (by have h := words_get (l := L) (i := t) (by rw [HLen.out]; exact ht64); simpa using h)
                rw [add_off, Nat.zero_add] at this
                exact this
              have hck : wr.cell? ⟨gk, t, none⟩ = some (.int .u32 ((keysL.getD t 0 : Nat) : Int)) := by rw [HK3.out.2.1.cell]; exact keyCells_get ht64
              have htI : (t : Int) < 64 := by omega
              obtain ⟨yw, hyw⟩ : ∃ y, y = L.getD t 0 := ⟨_, rfl⟩
              obtain ⟨yk, hyk⟩ : ∃ y, y = keysL.getD t 0 := ⟨_, rfl⟩
              rw [← hyw] at hcw HN
              rw [← hyk] at hck HN
              clear hyw hyk
              obtain ⟨xa, xb, xc, xd, xe, xf, xg, xh⟩ := x
              have c0 : wr.cell? ⟨gw, 0, none⟩ = some (.int .u32 (xa : Int)) := hcv 0 (by omega)
              have c1 : wr.cell? ⟨gw, 1, none⟩ = some (.int .u32 (xb : Int)) := hcv 1 (by omega)
              have c2 : wr.cell? ⟨gw, 2, none⟩ = some (.int .u32 (xc : Int)) := hcv 2 (by omega)
              have c3 : wr.cell? ⟨gw, 3, none⟩ = some (.int .u32 (xd : Int)) := hcv 3 (by omega)
              have c4 : wr.cell? ⟨gw, 4, none⟩ = some (.int .u32 (xe : Int)) := hcv 4 (by omega)
              have c5 : wr.cell? ⟨gw, 5, none⟩ = some (.int .u32 (xf : Int)) := hcv 5 (by omega)
              have c6 : wr.cell? ⟨gw, 6, none⟩ = some (.int .u32 (xg : Int)) := hcv 6 (by omega)
              have c7 : wr.cell? ⟨gw, 7, none⟩ = some (.int .u32 (xh : Int)) := hcv 7 (by omega)
              clear hcv
              have HOKx := Lib.hid hok
              obtain ⟨⟨ha, hb, hc, hd⟩, ⟨he, hf, hg, hh⟩⟩ := hok
              simp only at ha hb hc hd he hf hg hh
              obtain ⟨r26, hr26⟩ : ∃ r, r = rotl xe 26 := ⟨_, rfl⟩
              have H26 : Hid (∀ w, Calls Tryz.prog 54 #[.int .u32 (xe : Int), .int .i64 26] w fun e w' => e = .returned (.int .u32 (r26 : Int)) ∧ ∃ d, w' = w.drewN d) := Lib.hid (fun w => by rw [hr26]; exact turn_two xe 26 w he (by omega))
              obtain ⟨r21, hr21⟩ : ∃ r, r = rotl xe 21 := ⟨_, rfl⟩
              have H21 : Hid (∀ w, Calls Tryz.prog 54 #[.int .u32 (xe : Int), .int .i64 21] w fun e w' => e = .returned (.int .u32 (r21 : Int)) ∧ ∃ d, w' = w.drewN d) := Lib.hid (fun w => by rw [hr21]; exact turn_two xe 21 w he (by omega))
              obtain ⟨r7, hr7⟩ : ∃ r, r = rotl xe 7 := ⟨_, rfl⟩
              have H7 : Hid (∀ w, Calls Tryz.prog 54 #[.int .u32 (xe : Int), .int .i64 7] w fun e w' => e = .returned (.int .u32 (r7 : Int)) ∧ ∃ d, w' = w.drewN d) := Lib.hid (fun w => by rw [hr7]; exact turn_two xe 7 w he (by omega))
              obtain ⟨r30, hr30⟩ : ∃ r, r = rotl xa 30 := ⟨_, rfl⟩
              have H30 : Hid (∀ w, Calls Tryz.prog 54 #[.int .u32 (xa : Int), .int .i64 30] w fun e w' => e = .returned (.int .u32 (r30 : Int)) ∧ ∃ d, w' = w.drewN d) := Lib.hid (fun w => by rw [hr30]; exact turn_two xa 30 w ha (by omega))
              obtain ⟨r19, hr19⟩ : ∃ r, r = rotl xa 19 := ⟨_, rfl⟩
              have H19 : Hid (∀ w, Calls Tryz.prog 54 #[.int .u32 (xa : Int), .int .i64 19] w fun e w' => e = .returned (.int .u32 (r19 : Int)) ∧ ∃ d, w' = w.drewN d) := Lib.hid (fun w => by rw [hr19]; exact turn_two xa 19 w ha (by omega))
              obtain ⟨r10, hr10⟩ : ∃ r, r = rotl xa 10 := ⟨_, rfl⟩
              have H10 : Hid (∀ w, Calls Tryz.prog 54 #[.int .u32 (xa : Int), .int .i64 10] w fun e w' => e = .returned (.int .u32 (r10 : Int)) ∧ ∃ d, w' = w.drewN d) := Lib.hid (fun w => by rw [hr10]; exact turn_two xa 10 w ha (by omega))
              have HRS := Lib.hid (And.intro hr26 (And.intro hr21 (And.intro hr7 (And.intro hr30 (And.intro hr19 hr10)))))
              have HRL := Lib.hid (And.intro (hr26 ▸ rotl_lt xe 26 he (by decide) : r26 < 4294967296) (And.intro (hr21 ▸ rotl_lt xe 21 he (by decide) : r21 < 4294967296) (And.intro (hr7 ▸ rotl_lt xe 7 he (by decide) : r7 < 4294967296) (And.intro (hr30 ▸ rotl_lt xa 30 ha (by decide) : r30 < 4294967296) (And.intro (hr19 ▸ rotl_lt xa 19 ha (by decide) : r19 < 4294967296) (hr10 ▸ rotl_lt xa 10 ha (by decide) : r10 < 4294967296))))))
              clear hr26 hr21 hr7 hr30 hr19 hr10
              clear ha hb hc hd he hf hg hh
              go_wp2_with fail
              go_quiet (fail)
              go_upto_region 20 with fail
              generalize hw5 : wr.drewN _ = w5
              have d7 : w5.cell? ⟨gw, 7, none⟩ = some (.int .u32 (xh : Int)) := by rw [← hw5]; exact c7
              have d3 : w5.cell? ⟨gw, 3, none⟩ = some (.int .u32 (xd : Int)) := by rw [← hw5]; exact c3
              have dw : w5.cell? ⟨g', t, none⟩ = some (.int .u32 (yw : Int)) := by rw [← hw5]; exact hcw
              have dk : w5.cell? ⟨gk, t, none⟩ = some (.int .u32 (yk : Int)) := by rw [← hw5]; exact hck
              have HK5 : Hid (Keep2 w w5 g gk H) := Lib.hid (by rw [← hw5]; exact HK3.out.new (by_drewN (by_refl _ _) _))
              have HOW5 : Hid (w5.ownsRow w.heap.size 66 1 (.slice (some ⟨g', 0, none⟩) 64 cap) 64 (wordCells L)) := Lib.hid (by rw [← hw5]; exact HOW3.out)
              clear c0 c1 c2 c3 c4 c5 c6 c7 hcw hck hw5 HK3 HOW3 HLV
              go_quiet (first | (go_at_call 54; with_reducible refine Calls.quiet_of (H26.out _)) | (go_at_call 54; with_reducible refine Calls.quiet_of (H21.out _)) | (go_at_call 54; with_reducible refine Calls.quiet_of (H7.out _)))
              go_upto_region 21 with fail
              have hif : (if IntKind.u32.signed = true then (-1 : Int) else IntKind.u32.max) = IntKind.u32.max := rfl
              rw [hif]
              clear hif
              have hok := HOKx.out
              obtain ⟨⟨ha, hb, hc, hd⟩, ⟨he, hf, hg, hh⟩⟩ := hok
              simp only at ha hb hc hd he hf hg hh
              have hs1 : bits .xor .u32 (bits .xor .u32 (r26 : Int) (r21 : Int)) (r7 : Int) = ((sig1 xe : Nat) : Int) := by
                rw [u32_xor_nat r26 r21 HRL.out.1 HRL.out.2.1, u32_xor_nat _ r7 (xor_lt HRL.out.1 HRL.out.2.1) HRL.out.2.2.1, HRS.out.1, HRS.out.2.1, HRS.out.2.2.1]
                rfl
              have hch : bits .xor .u32 (bits .and .u32 (xe : Int) (xf : Int)) (bits .and .u32 (bits .xor .u32 IntKind.u32.max (xe : Int)) (xg : Int)) = ((chW xe xf xg : Nat) : Int) := by
                rw [u32_and_nat xe xf he hf, not_word xe he, u32_and_nat _ xg (xor_lt (by decide) he) hg, u32_xor_nat _ _ (and_lt _ hf) (and_lt _ hg)]
                rfl
              have hs0 : bits .xor .u32 (bits .xor .u32 (r30 : Int) (r19 : Int)) (r10 : Int) = ((sig0 xa : Nat) : Int) := by
                rw [u32_xor_nat r30 r19 HRL.out.2.2.2.1 HRL.out.2.2.2.2.1, u32_xor_nat _ r10 (xor_lt HRL.out.2.2.2.1 HRL.out.2.2.2.2.1) HRL.out.2.2.2.2.2, HRS.out.2.2.2.1, HRS.out.2.2.2.2.1, HRS.out.2.2.2.2.2]
                rfl
              have hmj : bits .xor .u32 (bits .xor .u32 (bits .and .u32 (xa : Int) (xb : Int)) (bits .and .u32 (xa : Int) (xc : Int))) (bits .and .u32 (xb : Int) (xc : Int)) = ((majW xa xb xc : Nat) : Int) := by
                rw [u32_and_nat xa xb ha hb, u32_and_nat xa xc ha hc, u32_and_nat xb xc hb hc, u32_xor_nat _ _ (and_lt _ hb) (and_lt _ hc), u32_xor_nat _ _ (xor_lt (and_lt _ hb) (and_lt _ hc)) (and_lt _ hc)]
                rfl
              obtain ⟨tx, htx⟩ : ∃ tx, tx = twoX yk yw ⟨xa, xb, xc, xd, xe, xf, xg, xh⟩ := ⟨_, rfl⟩
              obtain ⟨ty, hty⟩ : ∃ ty, ty = twoY ⟨xa, xb, xc, xd, xe, xf, xg, xh⟩ := ⟨_, rfl⟩
              have hex : (((xh : Int) + ((sig1 xe : Nat) : Int) + ((chW xe xf xg : Nat) : Int) + (yk : Int)) % 4294967296 + (yw : Int)) % 4294967296 = (tx : Int) := by
                rw [htx]
                unfold twoX
                simp only [addW_cast]
                omega
              have hey : (((sig0 xa : Nat) : Int) + ((majW xa xb xc : Nat) : Int)) % 4294967296 = (ty : Int) := by
                rw [hty]
                unfold twoY
                simp only [addW_cast]
              rw [hs1, hch, hex]
              have HS0 := Lib.hid hs0
              have HMJ := Lib.hid hmj
              have HEY := Lib.hid hey
              have HTX := Lib.hid htx
              have HTY := Lib.hid hty
              clear hs1 hch hex hs0 hmj hey htx hty ha hb hc hd he hf hg hh HRL HRS
              go_wp2_with (first | (go_at_call 54; with_reducible refine (H30.out _).mono ?_; rintro e4 w6 ⟨rfl, d4, rfl⟩) | (go_at_call 54; with_reducible refine (H19.out _).mono ?_; rintro e4 w6 ⟨rfl, d4, rfl⟩) | (go_at_call 54; with_reducible refine (H10.out _).mono ?_; rintro e4 w6 ⟨rfl, d4, rfl⟩))
              refine ⟨?_, ?measure⟩
              · have he1 : ((tx : Int) + (((sig0 xa : Nat) : Int) + ((majW xa xb xc : Nat) : Int))) % 4294967296 = ((addW tx ty : Nat) : Int) := by rw [addW_cast, ← HEY.out]; omega
                have he2 : ((xd : Int) + (tx : Int)) % 4294967296 = ((addW xd tx : Nat) : Int) := (addW_cast xd tx).symm
                rw [HS0.out, HMJ.out, he1, he2]
                generalize hw7 : w5.drewN _ = w7
                have hs7 : w7.heap.size = w5.heap.size := by rw [← hw7]; rfl
                have hk7 : Keep2 w w7 g gk H := by rw [← hw7]; exact HK5.out.new (by_drewN (by_refl _ _) _)
                have ho7 : w7.ownsRow w.heap.size 66 1 (.slice (some ⟨g', 0, none⟩) 64 cap) 64 (wordCells L) := by rw [← hw7]; exact HOW5.out
                have hw8 : (steps2 L (t + 1) x0).words = [addW tx ty, xa, xb, xc, addW xd tx, xe, xf, xg] := by rw [HN.out, HTX.out, HTY.out]; rfl
                refine ⟨t + 1, steps2 L (t + 1) x0, w5.heap.size, 8, by omega, by go_num, rfl, rfl, fun k hk => ?_, by simp; omega, by have := HK5.out.1.1.lt; omega, hk7.new (by_alloc (by_refl _ _) _), own_kept ho7 (by_alloc (by_refl _ _) _)⟩
                rw [← hs7, (Blk.new w7 66 _).cell k, hw8]
                match k, hk with
                | 0, _ => rfl
                | 1, _ => rfl
                | 2, _ => rfl
                | 3, _ => rfl
                | 4, _ => rfl
                | 5, _ => rfl
                | 6, _ => rfl
                | 7, _ => rfl
              case measure => simp [intOf] <;> omega
            · obtain rfl : t = 64 := by omega
              have HXX := Lib.hid hx
              have HCV := Lib.hid hcv
              have HKU := Lib.hid (show Keep2 w wr g gk (upCells x0 x 0) by rw [upCells_zero, ← HH.out]; exact HK3.out)
              clear hx hok hcv HK3
              go_wp2_with fail
              go_loopw [20] (fun i w4 => ∃ k : Nat, k ≤ 8 ∧ i = .int .i64 (k : Int) ∧ Keep2 w w4 g gk (upCells x0 x k) ∧ (∀ k, k < 8 → w4.cell? ⟨gw, k, none⟩ = some (.int .u32 ((x.words.getD k 0 : Nat) : Int)))) (fun i _ => 8 - (intOf i).toNat)
              case atStart => exact ⟨0, by omega, rfl, HKU.out, HCV.out⟩
              case round =>
                clear HKU HCV HOW3 HLV
                obtain ⟨k, hk, rfl, hku, hcv⟩ := hrel
                have HKU := Lib.hid hku
                clear hku
                by_cases hk8 : k < 8
                · have r1 : wr.cell? ⟨g, k, none⟩ = some (.int .u32 ((x0.words.getD k 0 : Nat) : Int)) := by rw [HKU.out.1.1.cell]; exact upCells_get x0 x hk8
                  have r2 := hcv k hk8
                  have fz := HKU.out.1.1.frozen k
                  have hkI : (k : Int) < 8 := by omega
                  have HCV := Lib.hid hcv
                  have HUS := Lib.hid (upCells_set x0 x hk8)
                  clear hcv
                  obtain ⟨y0, hy0⟩ : ∃ y, y = x0.words.getD k 0 := ⟨_, rfl⟩
                  obtain ⟨y1, hy1⟩ : ∃ y, y = x.words.getD k 0 := ⟨_, rfl⟩
                  rw [← hy0] at r1 HUS
                  rw [← hy1] at r2 HUS
                  clear hy0 hy1
                  go_wp2_with fail
                  go_still_tail 12, (by kernel_rfl)
                  change wpList _ _ _ _ _ wr.drew
                  go_wp2_with fail
                  clear r1 r2 fz
                  refine ⟨?_, ?measure⟩
                  · have he : ((y0 : Int) + (y1 : Int)) % 4294967296 = ((addW y0 y1 : Nat) : Int) := (addW_cast y0 y1).symm
                    have hkp : Keep2 w (wr.drew.setCell ⟨g, k, none⟩ (.int .u32 ((addW y0 y1 : Nat) : Int))) g gk (upCells x0 x (k + 1)) := by
                      rw [← HUS.out]
                      exact Keep2.put (HKU.out.new (by_drew (by_refl _ _))) k _
                    have hcc : ∀ i, i < 8 → (wr.drew.setCell ⟨g, k, none⟩ (.int .u32 ((addW y0 y1 : Nat) : Int))).cell? ⟨gw, i, none⟩ = some (.int .u32 ((x.words.getD i 0 : Nat) : Int)) := fun i hi => by
                      rw [← HCV.out i hi]
                      exact cell_far wr.drew HGW.out i k _
                    rw [he]
                    repeat (apply Exists.intro)
                    refine ⟨?_, rfl⟩
                    exact ⟨k + 1, by omega, by go_num, hkp, hcc⟩
                  case measure => simp [intOf] <;> omega
                · obtain rfl : k = 8 := by omega
                  rw [upCells_all, HXX.out, ← HNX.out] at HKU
                  go_wp2_with fail
                  refine ⟨?_, ?measure⟩
                  · refine ⟨q + 1, by omega, ⟨A + 64, by have := HA.out; omega, by go_num⟩, HKU.out⟩
                  case measure => have := HA.out; simp [intOf] <;> omega
    · obtain rfl : q = Q := by omega
      have hAMI : ¬ (A : Int) < (M.size : Int) := by have := HMQ.out; omega
      obtain ⟨st, hst⟩ : ∃ st, st = hash2 M.data.toList q := ⟨_, rfl⟩
      rw [← hst] at HK
      have HST := Lib.hid hst
      have hok : st.ok := by rw [hst]; exact hash2_ok _ _
      have HOK := Lib.hid hok
      clear hst hA hok
      go_wp2_with fail
      go_loopw [21, 22] (fun o i w2 => ∃ j : Nat, j ≤ 8 ∧ i = .int .i64 (j : Int) ∧ o = .string ⟨((st.words.take j).flatMap fun x => highB x 4).toArray⟩ ∧ Keep2 w w2 g gk (s8Cells st)) (fun _ i _ => 8 - (intOf i).toNat)
      case atStart => exact ⟨0, by omega, rfl, rfl, HK.out⟩
      case round =>
        obtain ⟨j, hj, rfl, rfl, hk2⟩ := hrel
        have HK2 := Lib.hid hk2
        clear hk2
        by_cases hj8 : j < 8
        · obtain ⟨y, hy⟩ : ∃ y, y = st.words.getD j 0 := ⟨_, rfl⟩
          have hyl : y < 4294967296 := by rw [hy]; exact words8_lt HOK.out hj8
          have hcj : wr.cell? ⟨g, j, none⟩ = some (.int .u32 (y : Int)) := by rw [HK2.out.1.1.cell, hy]; exact s8_get st hj8
          have hw5 : st.words[j]? = some y := by rw [hy]; exact words8_some st hj8
          have HT : Hid ((st.words.take (j + 1)).flatMap (fun x => highB x 4) = (st.words.take j).flatMap (fun x => highB x 4) ++ highB y 4) := Lib.hid (by rw [List.take_add_one, hw5]; simp)
          have hll := words8_bytes st hj8
          obtain ⟨l, hl⟩ : ∃ l, l = (st.words.take j).flatMap fun x => highB x 4 := ⟨_, rfl⟩
          rw [← hl] at HT hll
          rw [← hl]
          obtain ⟨O, hO⟩ : ∃ O : ByteArray, O = ⟨l.toArray⟩ := ⟨_, rfl⟩
          obtain ⟨Y, hY⟩ : ∃ Y : ByteArray, Y = ⟨(highB y 4).toArray⟩ := ⟨_, rfl⟩
          have hOs : O.size = 4 * j := by rw [hO]; show l.toArray.size = _; simpa using hll
          have hYs : Y.size = 4 := by rw [hY]; show (highB y 4).toArray.size = 4; simp [highB_length]
          have HOY : Hid (O ++ Y = ⟨(l ++ highB y 4).toArray⟩) := Lib.hid (by rw [hO, hY]; apply ByteArray.ext; rw [ByteArray.data_append]; simp)
          have HHi : Hid (∀ w3, Calls Tryz.prog 55 #[.int .u64 (y : Int), .int .i64 4] w3 fun e w' => e = .returned (.string Y) ∧ Below w3.heap.size w3 w') := Lib.hid (fun w3 => by rw [hY]; exact high_any y 4 w3 (by omega) (by omega) (by omega))
          have hsum : O.size + Y.size ≤ 9223372036854775807 := by omega
          rw [← hO]
          have hjI : (j : Int) < 8 := by omega
          clear hy hw5 hl hO hY hOs hYs hll
          go_wp2_with (go_at_call 55; refine (HHi.out _).mono ?_; rintro e3 w3 ⟨rfl, hb3⟩)
          go_wp2_with fail
          go_roundw
          case rel => exact ⟨j + 1, by omega, by go_num, by rw [HT.out, HOY.out], HK2.out.new (by_below hb3 (Nat.le_refl _))⟩
          case measure => simp [intOf] <;> omega
        · obtain rfl : j = 8 := by omega
          go_wp2_with fail
          go_ret
          refine ⟨?_, HK2.out.1.2.2⟩
          have e : (st.words.take 8).flatMap (fun x => highB x 4) = twoB s.data.toList := by
            rw [show st.words.take 8 = st.words from rfl, HST.out]
            unfold twoB
            rw [← Lib.size_eq, ← HMD.out, ← Lib.size_eq, HQ.out]
            rfl
          exact congrArg (fun l : List UInt8 => Ending.returned (.string ⟨l.toArray⟩)) e
end Go.Proofs.YtpliknofjgbfjaaGreatDoor
