/-
  SHA-256, the code's: the words of all rounds.
-/
import Derived.Test.YtokddfbjjghpkaaDoorTwoTurned
namespace Go.Proofs.YtokddfbjjghpkaaDoor
open Go.RowKit

/-- The array of the words so far. -/
def arrV (l : List Nat) : Array Value := (wordCells (l ++ List.replicate (64 - l.length) 0)).toArray
theorem arrV_size {l : List Nat} (h : l.length ≤ 64) : (arrV l).size = 64 := by unfold arrV wordCells; simp; omega
theorem arrV_get {l : List Nat} (h : l.length ≤ 64) {i : Nat} (hi : i < 64) : (arrV l)[i]? = some (.int .u32 ((l.getD i 0 : Nat) : Int)) := by
  unfold arrV wordCells
  rw [List.getElem?_toArray, List.getElem?_map]
  by_cases hl : i < l.length
  · rw [List.getElem?_append_left hl, List.getD_eq_getElem?_getD, List.getElem?_eq_getElem hl]; rfl
  · rw [List.getElem?_append_right (by omega), List.getElem?_replicate, if_pos (by omega), List.getD_eq_getElem?_getD, List.getElem?_eq_none (by omega)]; rfl
theorem arrV_set {l : List Nat} (h : l.length < 64) (x : Nat) : (arrV l).setIfInBounds l.length (.int .u32 (x : Int)) = arrV (l ++ [x]) := by
  have e : List.replicate (64 - l.length) 0 = 0 :: List.replicate (64 - (l ++ [x]).length) 0 := by
    rw [List.length_append, List.length_singleton, show 64 - l.length = (64 - (l.length + 1)) + 1 by omega]; rfl
  unfold arrV wordCells
  rw [e, List.setIfInBounds_toArray]
  simp
theorem arrV_full {l : List Nat} (h : l.length = 64) : arrV l = (wordCells l).toArray := by unfold arrV; rw [h]; simp
theorem arrV_nil : arrV [] = (List.replicate 64 (Value.int .u32 0)).toArray := by unfold arrV wordCells; simp
theorem store_wordV {w : World} {g j : Nat} {t : TypeId} {l : List Nat} {x : Nat} {V : Int} (h : Blk w g t (arrV l)) (hl : l.length = j) (hj : j < 64) (hV : V = ((x : Nat) : Int)) :
    Blk (w.drew.setCell ⟨g, j, none⟩ (.int .u32 V)) g t (arrV (l ++ [x])) := by
  subst hl
  rw [hV, ← arrV_set hj x]
  exact h.drew.put _ _
theorem next2_first {X : ByteArray} {j i0 i1 i2 i3 : Nat} {l : List Nat} (h : j < 16) (h0 : i0 = 4 * j) (h1 : i1 = i0 + 1) (h2 : i2 = i0 + 2) (h3 : i3 = i0 + 3) (l0 : i0 < X.size) (l1 : i1 < X.size) (l2 : i2 < X.size) (l3 : i3 < X.size) :
    ((((((X[i0]).toNat <<< 24 ||| (X[i1]).toNat <<< 16) ||| (X[i2]).toNat <<< 8) ||| (X[i3]).toNat : Nat)) : Int) = ((next2 (fun t => X.data.toList.getD t 0) l j : Nat) : Int) := by
  rw [← getD_byte X i0 l0, ← getD_byte X i1 l1, ← getD_byte X i2 l2, ← getD_byte X i3 l3]
  subst h1; subst h2; subst h3; subst h0
  unfold next2
  rw [if_pos h]
  rfl
theorem next2_later {p : Nat → UInt8} {j ia ib ic id : Nat} {l : List Nat} (h : ¬ j < 16) (ha : ia = j - 15) (hb : ib = j - 2) (hc : ic = j - 16) (hd : id = j - 7) :
    next2 p l j = addW (addW (addW (l.getD ic 0) (l.getD id 0)) (low0 (l.getD ia 0))) (low1 (l.getD ib 0)) := by
  subst ha; subst hb; subst hc; subst hd
  exact words2_next_later h

set_option maxRecDepth 100000 in
set_option maxHeartbeats 2000000 in
theorem words_code (X : ByteArray) (w : World) (hX : X.size = 64) :
    Calls Tryd.prog 40 #[.string X] w fun e w' => e = .returned (.agg (wordCells (words2 (fun t => X.data.toList.getD t 0) 64)).toArray) ∧ Below w.heap.size w w' := by
  obtain ⟨p, hp⟩ : ∃ p, p = fun t => X.data.toList.getD t 0 := ⟨_, rfl⟩
  rw [← hp]
  have HP := Lib.hid hp
  clear hp
  have HXS := Lib.hid hX
  clear hX
  have hz : ∀ w, (zeroValue 85).run Tryd.prog w = .ok (.agg (arrV [])) w := fun w => by rw [arrV_nil]; kernel_rfl
  obtain ⟨Z, hZ⟩ : ∃ Z, Z = arrV [] := ⟨_, rfl⟩
  rw [← hZ] at hz
  have HZ := Lib.hid hZ
  clear hZ
  go_enter Tryd.func40, Tryd.ntmps40
  go_wp2_with fail
  have b1 : Blk ((w.alloc (.cells Z 85)).alloc (.cells Z 85)) w.heap.size 85 Z := (Blk.new w _ Z).alloc _
  have b2 : Blk ((w.alloc (.cells Z 85)).alloc (.cells Z 85)) (w.heap.size + 1) 85 Z := by
    have := Blk.new (w.alloc (.cells Z 85)) 85 Z
    simpa using this
  have hb : Below w.heap.size w ((w.alloc (.cells Z 85)).alloc (.cells Z 85)) := ((Below.refl _ _).alloc (Nat.le_refl _) _).alloc (by simp) _
  clear hz
  go_loopw [9] (fun i wr => ∃ j : Nat, j ≤ 64 ∧ i = .int .i64 j ∧ Blk wr w.heap.size 85 Z ∧ Blk wr (w.heap.size + 1) 85 (arrV (words2 p j)) ∧ Below w.heap.size w wr) (fun i _ => 64 - (intOf i).toNat)
  case atStart => exact ⟨0, by omega, rfl, b1, (congrArg (Blk _ _ _) HZ.out).mp b2, hb⟩
  case round =>
    clear b1 b2 hb
    obtain ⟨j, hj, rfl, b1, b2, hb⟩ := hrel
    have HB1 := Lib.hid b1
    have HB2 := Lib.hid b2
    have HB := Lib.hid hb
    clear b1 b2 hb
    by_cases hlt : j < 64
    · by_cases h16 : j < 16
      · obtain ⟨i0, hi0⟩ : ∃ i : Nat, i = 4 * j := ⟨_, rfl⟩
        have w0 : IntKind.i64.wrap (4 * (j : Int)) = (i0 : Int) := by rw [hi0, IntWalk.i64_in _ (by omega)]; omega
        obtain ⟨i1, hi1⟩ : ∃ i : Nat, i = i0 + 1 := ⟨_, rfl⟩
        have w1 : IntKind.i64.wrap ((i0 : Int) + 1) = (i1 : Int) := by rw [IntWalk.i64_in _ (by omega)]; omega
        obtain ⟨i2, hi2⟩ : ∃ i : Nat, i = i0 + 2 := ⟨_, rfl⟩
        have w2 : IntKind.i64.wrap ((i0 : Int) + 2) = (i2 : Int) := by rw [IntWalk.i64_in _ (by omega)]; omega
        obtain ⟨i3, hi3⟩ : ∃ i : Nat, i = i0 + 3 := ⟨_, rfl⟩
        have w3 : IntKind.i64.wrap ((i0 : Int) + 3) = (i3 : Int) := by rw [IntWalk.i64_in _ (by omega)]; omega
        have l0 : i0 < X.size := by rw [HXS.out]; omega
        have l1 : i1 < X.size := by rw [HXS.out]; omega
        have l2 : i2 < X.size := by rw [HXS.out]; omega
        have l3 : i3 < X.size := by rw [HXS.out]; omega
        have HI := Lib.hid (And.intro hi0 (And.intro hi1 (And.intro hi2 hi3)))
        clear hi0 hi1 hi2 hi3
        go_wp2_with fail
        have c4 : wr.cell? ⟨w.heap.size + 1, j, none⟩ = some (.int .u32 (((words2 p j).getD j 0 : Nat) : Int)) := by rw [HB2.out.cell]; exact arrV_get (by rw [words2_length]; omega) (by omega)
        have f4 := HB2.out.frozen j
        have l4 : (j : Int) < 64 := by omega
        go_still_tail 31, (by kernel_rfl)
        change wpList _ _ _ _ _ wr.drew
        go_wp2_with fail
        go_roundw
        case rel =>
          have H3 := store_wordV HB2.out (words2_length p j) hlt ((word_cast X[i0] X[i1] X[i2] X[i3]).trans ((next2_first (l := words2 p j) h16 HI.out.1 HI.out.2.1 HI.out.2.2.1 HI.out.2.2.2 l0 l1 l2 l3).trans (by rw [← HP.out])))
          exact ⟨j + 1, by omega, by go_num, HB1.out.drew.far (by simp) _, H3, HB.out.drew.setCell (by simp) _⟩
        case measure => simp [intOf]; omega
      · obtain ⟨ia, hia⟩ : ∃ i : Nat, i = j - 15 := ⟨_, rfl⟩
        have wa : IntKind.i64.wrap ((j : Int) - 15) = (ia : Int) := by rw [IntWalk.i64_in _ (by omega)]; omega
        obtain ⟨ib, hib⟩ : ∃ i : Nat, i = j - 2 := ⟨_, rfl⟩
        have wb : IntKind.i64.wrap ((j : Int) - 2) = (ib : Int) := by rw [IntWalk.i64_in _ (by omega)]; omega
        obtain ⟨ic, hic⟩ : ∃ i : Nat, i = j - 16 := ⟨_, rfl⟩
        have wc : IntKind.i64.wrap ((j : Int) - 16) = (ic : Int) := by rw [IntWalk.i64_in _ (by omega)]; omega
        obtain ⟨id, hid⟩ : ∃ i : Nat, i = j - 7 := ⟨_, rfl⟩
        have wd : IntKind.i64.wrap ((j : Int) - 7) = (id : Int) := by rw [IntWalk.i64_in _ (by omega)]; omega
        have la : (ia : Int) < 64 := by omega
        have lb : (ib : Int) < 64 := by omega
        have lc : (ic : Int) < 64 := by omega
        have ld : (id : Int) < 64 := by omega
        have lj : (j : Int) < 64 := by omega
        have hlen : (words2 p j).length ≤ 64 := by rw [words2_length]; omega
        have HN := Lib.hid (next2_later (p := p) (l := words2 p j) h16 hia hib hic hid)
        have HE := Lib.hid (words2_next p j)
        have HL := Lib.hid (words2_length p j)
        have g := fun i => getD_lt (words2_lt p j) (by decide) i
        obtain ⟨l, hl⟩ : ∃ l, l = words2 p j := ⟨_, rfl⟩
        rw [← hl] at HN HE HB2 hlen g HL
        clear hl
        have ca : wr.cell? ⟨w.heap.size + 1, ia, none⟩ = some (.int .u32 ((l.getD ia 0 : Nat) : Int)) := by rw [HB2.out.cell]; exact arrV_get hlen (by omega)
        have cb : wr.cell? ⟨w.heap.size + 1, ib, none⟩ = some (.int .u32 ((l.getD ib 0 : Nat) : Int)) := by rw [HB2.out.cell]; exact arrV_get hlen (by omega)
        have cc : wr.cell? ⟨w.heap.size + 1, ic, none⟩ = some (.int .u32 ((l.getD ic 0 : Nat) : Int)) := by rw [HB2.out.cell]; exact arrV_get hlen (by omega)
        have cd : wr.cell? ⟨w.heap.size + 1, id, none⟩ = some (.int .u32 ((l.getD id 0 : Nat) : Int)) := by rw [HB2.out.cell]; exact arrV_get hlen (by omega)
        have cj : wr.cell? ⟨w.heap.size + 1, j, none⟩ = some (.int .u32 ((l.getD j 0 : Nat) : Int)) := by rw [HB2.out.cell]; exact arrV_get hlen (by omega)
        have fj := HB2.out.frozen j
        have ga := g ia
        have gb := g ib
        clear hia hib hic hid hlen g
        generalize l.getD ia 0 = ya at *
        generalize l.getD ib 0 = yb at *
        generalize l.getD ic 0 = yc at *
        generalize l.getD id 0 = yd at *
        generalize l.getD j 0 = yj at *
        obtain ⟨r1, hr1⟩ : ∃ r, r = rotl ya 25 := ⟨_, rfl⟩
        obtain ⟨r2, hr2⟩ : ∃ r, r = rotl ya 14 := ⟨_, rfl⟩
        obtain ⟨r3, hr3⟩ : ∃ r, r = rotl yb 15 := ⟨_, rfl⟩
        obtain ⟨r4, hr4⟩ : ∃ r, r = rotl yb 13 := ⟨_, rfl⟩
        have H1 : Hid (∀ w, Calls Tryd.prog 54 #[.int .u32 ya, .int .i64 (-7)] w fun e w' => e = .returned (.int .u32 r1) ∧ w' = w) := Lib.hid (fun w => by rw [hr1]; exact rot_right ya 25 (-7) w ga (by omega))
        have H2 : Hid (∀ w, Calls Tryd.prog 54 #[.int .u32 ya, .int .i64 (-18)] w fun e w' => e = .returned (.int .u32 r2) ∧ w' = w) := Lib.hid (fun w => by rw [hr2]; exact rot_right ya 14 (-18) w ga (by omega))
        have H3 : Hid (∀ w, Calls Tryd.prog 54 #[.int .u32 yb, .int .i64 (-17)] w fun e w' => e = .returned (.int .u32 r3) ∧ w' = w) := Lib.hid (fun w => by rw [hr3]; exact rot_right yb 15 (-17) w gb (by omega))
        have H4 : Hid (∀ w, Calls Tryd.prog 54 #[.int .u32 yb, .int .i64 (-19)] w fun e w' => e = .returned (.int .u32 r4) ∧ w' = w) := Lib.hid (fun w => by rw [hr4]; exact rot_right yb 13 (-19) w gb (by omega))
        have HLA : Hid (bits .xor .u32 (bits .xor .u32 (r1 : Int) (r2 : Int)) ((ya : Int) / 8) = ((low0 ya : Nat) : Int)) := Lib.hid (by
          have l1 : r1 < 4294967296 := hr1 ▸ rotl_lt ya 25 ga (by decide)
          have l2 : r2 < 4294967296 := hr2 ▸ rotl_lt ya 14 ga (by decide)
          have e : ∀ q : Nat, q = ya >>> 3 → (ya : Int) / 8 = (q : Int) := fun q hq => hq ▸ shr3 ya
          rw [e _ rfl, u32_xor_nat r1 r2 l1 l2, u32_xor_nat _ _ (xor_lt l1 l2) (shr_lt 3 ga), hr1, hr2]
          rfl)
        have HLB : Hid (bits .xor .u32 (bits .xor .u32 (r3 : Int) (r4 : Int)) ((yb : Int) / 1024) = ((low1 yb : Nat) : Int)) := Lib.hid (by
          have l1 : r3 < 4294967296 := hr3 ▸ rotl_lt yb 15 gb (by decide)
          have l2 : r4 < 4294967296 := hr4 ▸ rotl_lt yb 13 gb (by decide)
          have e : ∀ q : Nat, q = yb >>> 10 → (yb : Int) / 1024 = (q : Int) := fun q hq => hq ▸ shr10 yb
          rw [e _ rfl, u32_xor_nat r3 r4 l1 l2, u32_xor_nat _ _ (xor_lt l1 l2) (shr_lt 10 gb), hr3, hr4]
          rfl)
        clear hr1 hr2 hr3 hr4 ga gb
        obtain ⟨za, hza⟩ : ∃ z, z = low0 ya := ⟨_, rfl⟩
        obtain ⟨zb, hzb⟩ : ∃ z, z = low1 yb := ⟨_, rfl⟩
        rw [← hza] at HLA HN
        rw [← hzb] at HLB HN
        clear hza hzb
        go_wp2_with fail
        go_quiet (fail)
        go_wp2_with (first | (go_at_call 54; with_reducible refine (H1.out _).mono ?_; rintro e w1 ⟨rfl, rfl⟩) | (go_at_call 54; with_reducible refine (H2.out _).mono ?_; rintro e w1 ⟨rfl, rfl⟩) | (go_at_call 54; with_reducible refine (H3.out _).mono ?_; rintro e w1 ⟨rfl, rfl⟩) | (go_at_call 54; with_reducible refine (H4.out _).mono ?_; rintro e w1 ⟨rfl, rfl⟩))
        rw [HLA.out, HLB.out]
        generalize hw5 : wr.drewN _ = w5
        have cc5 : w5.cell? ⟨w.heap.size + 1, ic, none⟩ = some (.int .u32 (yc : Int)) := by rw [← hw5]; exact cc
        have cd5 : w5.cell? ⟨w.heap.size + 1, id, none⟩ = some (.int .u32 (yd : Int)) := by rw [← hw5]; exact cd
        have cj5 : w5.cell? ⟨w.heap.size + 1, j, none⟩ = some (.int .u32 (yj : Int)) := by rw [← hw5]; exact cj
        have B15 : Hid (Blk w5 w.heap.size 85 Z) := Lib.hid (by rw [← hw5]; exact HB1.out)
        have B25 : Hid (Blk w5 (w.heap.size + 1) 85 (arrV l)) := Lib.hid (by rw [← hw5]; exact HB2.out)
        have B35 : Hid (Below w.heap.size w w5) := Lib.hid (by rw [← hw5]; exact ⟨HB.out.os, HB.out.tape, HB.out.output, HB.out.size, HB.out.block⟩)
        have fj5 := B25.out.frozen j
        clear ca cb cc cd cj fj hw5 HB1 HB2 HB
        go_still_tail 15, (by kernel_rfl)
        change wpList _ _ _ _ _ w5.drew
        go_wp2_with fail
        go_roundw
        case rel =>
          have H3 : Blk (w5.drew.setCell ⟨w.heap.size + 1, j, none⟩ (.int .u32 (((yc : Int) + (za : Int) + (yd : Int) + (zb : Int)) % 4294967296))) (w.heap.size + 1) 85 (arrV (words2 p (j + 1))) := by
            rw [HE.out, HN.out]
            exact store_wordV B25.out HL.out hlt (by unfold addW; omega)
          exact ⟨j + 1, by omega, by go_num, B15.out.drew.far (by simp) _, H3, B35.out.drew.setCell (by simp) _⟩
        case measure => simp [intOf]; omega
    · obtain rfl : j = 64 := by omega
      have hs : ∀ w, (sizeOf 85).run Tryd.prog w = .ok (wordCells (words2 p 64)).toArray.size w := fun w => by
        rw [show (wordCells (words2 p 64)).toArray.size = 64 by unfold wordCells; simp [words2_length]]
        kernel_rfl
      have ha : ∀ w, (isAgg 85).run Tryd.prog w = .ok true w := fun w => by kernel_rfl
      have hW : Blk wr (w.heap.size + 1) 85 (wordCells (words2 p 64)).toArray := by rw [← arrV_full (words2_length p 64)]; exact HB2.out
      have hz : Z.size = 64 := by rw [HZ.out]; exact arrV_size (by simp)
      have hc : (wordCells (words2 p 64)).toArray.size = 64 := by unfold wordCells; simp [words2_length]
      have h1 : (wordCells (words2 p 64)).toArray.all (·.oneCell') = true := by unfold wordCells; simp [Value.oneCell']
      obtain ⟨RC, hRC⟩ : ∃ RC, RC = (wordCells (words2 p 64)).toArray := ⟨_, rfl⟩
      rw [← hRC] at hs hW hc h1
      have HRC := Lib.hid hRC
      clear hRC
      have HL := Lib.hid (load_whole hW ha hs)
      have HS := Lib.hid (store_whole HB1.out (hc.trans hz.symm) h1 hs)
      have HR := Lib.hid (run_var_part (P := Tryd.prog) (off := 0) (blk_setRow HB1.out RC) (fun j v h => by rw [Nat.zero_add]; exact h) ha hs)
      clear hs ha hW hz hc h1
      go_upto_region 12 with fail
      refine wp_region_lit ?_
      refine wpList_load rfl rfl rfl HL.out ?_
      refine wpList_store rfl rfl rfl rfl HS.out ?_
      clear HL HS
      go_wp2_with fail
      refine ret_cell rfl rfl HR.out rfl ⟨by rw [HRC.out], ?_⟩
      exact below_setRow HB.out (Nat.le_refl _) _
end Go.Proofs.YtokddfbjjghpkaaDoor
