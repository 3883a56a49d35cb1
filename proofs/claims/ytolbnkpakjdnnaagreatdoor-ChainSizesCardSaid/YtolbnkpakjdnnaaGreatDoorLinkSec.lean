/-
  Package chain's Sectors and Drop. No statement is proved here.
-/
import Derived.Test.YtolbnkpakjdnnaaGreatDoorLinkWalk
import Derived.Test.YtolbnkpakjdnnaaGreatDoorHeadNext
namespace Go.Proofs.YtolbnkpakjdnnaaGreatDoor
open Go.RowKit

def secsC (R : List LK × Int) : List Int := if R.2 ≠ 0 then [] else R.1.map (·.at_)
theorem chainR_len' (K : KD) (t : Int) : (chainR K t).1.length ≤ 40 := by
  have := walkC_len (getR K) 40 [] t
  simpa [chainR] using this
theorem secsC_len (K : KD) (t : Int) : (secsC (chainR K t)).length ≤ 40 := by
  unfold secsC
  split
  · simp
  · rw [List.length_map]; exact chainR_len' K t
set_option maxRecDepth 100000 in
set_option maxHeartbeats 8000000 in
theorem csectors_any {w0 w : World} {g gd m N : Nat} {K : KD} {h : List ByteArray} {c0 : Nat} (s : DSt w0 w g gd m K) (r : Run11 N K h c0) {t0 : Int} (ht : I64 t0) :
    Calls Tryz.prog 20 #[.pointer (some ⟨g, 0, none⟩), .int .i64 t0] w fun e w' => ∃ A c, e = .returned (.tuple #[.slice A (secsC (chainR K t0)).length c, .int .i64 (chainR K t0).2]) ∧ w'.ownsRow w.heap.size 3 1 (.slice A (secsC (chainR K t0)).length c) (secsC (chainR K t0)).length ((secsC (chainR K t0)).map (Value.int .i64)) ∧ (A = none → c = 0) ∧ Below w.heap.size w w' := by
  have HWK : Hid (∀ w1, Below w.heap.size w w1 → Calls Tryz.prog 59 #[.pointer (some ⟨g, 0, none⟩), .int .i64 t0] w1 fun e w' => WalkSays w1 (chainR K t0) e w') := Lib.hid (fun w1 hb => kwalk_any (s.below hb) r ht)
  have hlen := chainR_len' K t0
  have hpos : (chainR K t0).2 = 0 → 0 < (chainR K t0).1.length := fun h => Nat.lt_of_le_of_lt (Nat.zero_le _) (walkC_ok (getR K) 40 [] t0 h)
  obtain ⟨R, hR⟩ : ∃ R, R = chainR K t0 := ⟨_, rfl⟩
  rw [← hR] at HWK hlen hpos ⊢
  obtain ⟨l, er⟩ := R
  simp only at hlen hpos
  obtain ⟨n, hn⟩ : ∃ n, n = l.length := ⟨_, rfl⟩
  have HN := Lib.hid hn
  have hnI : (n : Int) ≤ 40 := by omega
  have HP := Lib.hid hpos
  clear hR s r ht hlen hpos hn
  by_cases he : er = 0
  rotate_left
  · have z0 : (er == 0) = false := by simpa using he
    have HE : Hid (secsC (l, er) = []) := Lib.hid (by unfold secsC; rw [if_pos he])
    clear he
    go_enter Tryz.func20, Tryz.ntmps20
    go_wp2_with fail
    refine (HWK.out _ (Below.refl _ _)).mono ?_
    rintro e w1 ⟨A, c, rfl, -, hb1⟩
    go_wp2_with fail
    go_ret2
    rw [HE.out]
    exact ⟨none, 0, rfl, World.ownsRow_nil _ _ _ _, fun _ => rfl, hb1⟩
  subst he
  have hnp : 0 < n := by rw [HN.out]; exact HP.out rfl
  have HE : Hid (secsC (l, 0) = l.map (·.at_)) := Lib.hid (by unfold secsC; rw [if_neg (by simp)])
  obtain ⟨i0, hi, hz0, hz1, hz2⟩ := info_parts clints_info
  obtain ⟨M, hM⟩ : ∃ M, M = madeCells (Value.int .i64 0).cells (((n : Nat) : Int).toNat * i0.size) := ⟨_, rfl⟩
  have hMs : M.size = n := by rw [hM, size_madeCells, hz1]; simp
  have hmk : ∀ W : World, (Instr.makeSlice 30 (.int .i64 (n : Int)) (.int .i64 (n : Int))).run Tryz.prog W = .ok (.slice (some ⟨W.heap.size, 0, none⟩) n n) (W.alloc (.cells M 3)) := fun W => by
    have h := run_make (P := Tryz.prog) W 30 3 i0 (.int .i64 0) Tryz.underlying30 hi hz0 .i64 .i64 (n : Int) (n : Int) (by omega) (by omega) (by rw [hz2]; omega) (by omega)
    rw [← hM] at h
    simpa using h
  have HMS := Lib.hid hMs
  clear hM hMs hi hz0 hz1 hz2
  go_enter Tryz.func20, Tryz.ntmps20
  go_wp2_with fail
  refine (HWK.out _ (Below.refl _ _)).mono ?_
  rintro e w1 ⟨A, c, rfl, hrow, hb1⟩
  rw [show ((l, (0 : Int)).1.length) = n from HN.out.symm] at hrow ⊢
  obtain ⟨b, rfl, hbb, hblt, hcel⟩ := links_cells hrow hnp
  have HB1 : Hid (Below w.heap.size w w1) := Lib.hid hb1
  have HC1 : Hid (∀ (j : Nat) (x : LK), l[j]? = some x → LinkCells w1 b (j * 7) x) := Lib.hid hcel
  have HBL : Hid (b < w1.heap.size) := Lib.hid hblt
  clear hrow hbb hblt hcel hb1 HWK
  go_wp2_with fail
  go_loopw [25] (fun i wr => ∃ (j : Nat) (cur : Array Value), j ≤ n ∧ i = .int .i64 j ∧ Blk wr w1.heap.size 3 cur ∧ cur.size = n ∧ cur.toList.take j = ((l.take j).map (·.at_)).map (Value.int .i64) ∧ Below w1.heap.size w1 wr) (fun i _ => n - (intOf i).toNat)
  case atStart => exact ⟨0, M, Nat.zero_le _, rfl, Blk.new _ _ _, HMS.out, by simp, (Below.refl _ _).alloc (Nat.le_refl _) _⟩
  case round =>
    obtain ⟨j, cur, hj, rfl, hbk, hcs, htk, hbr⟩ := hrel
    have HBR := Lib.hid hbr
    have HBK := Lib.hid hbk
    have HCS := Lib.hid hcs
    have HTK := Lib.hid htk
    clear hbk hbr hcs htk
    by_cases hlt : j < n
    · have hjl : j < l.length := by rw [← HN.out]; exact hlt
      obtain ⟨y, hy⟩ : ∃ y, l[j]? = some y := ⟨_, List.getElem?_eq_getElem hjl⟩
      have hyb := HBR.out.block b HBL.out
      obtain ⟨c0, c1, c2, c3, c4, c5, c6⟩ := HC1.out j y hy
      have c0 := (World.cell?_of_block (a := ⟨b, j * 7, none⟩) hyb).trans c0
      have c1 := (World.cell?_of_block (a := ⟨b, j * 7 + 1, none⟩) hyb).trans c1
      have c2 := (World.cell?_of_block (a := ⟨b, j * 7 + 2, none⟩) hyb).trans c2
      have c3 := (World.cell?_of_block (a := ⟨b, j * 7 + 3, none⟩) hyb).trans c3
      have c4 := (World.cell?_of_block (a := ⟨b, j * 7 + 4, none⟩) hyb).trans c4
      have c5 := (World.cell?_of_block (a := ⟨b, j * 7 + 5, none⟩) hyb).trans c5
      have c6 := (World.cell?_of_block (a := ⟨b, j * 7 + 6, none⟩) hyb).trans c6
      have HSN : Hid (((l.take (j + 1)).map (·.at_)).map (Value.int .i64) = ((l.take j).map (·.at_)).map (Value.int .i64) ++ [.int .i64 y.at_]) := Lib.hid (by rw [List.take_add_one, hy]; simp)
      obtain ⟨gen, tag, num, refs, next, B, at_⟩ := y
      simp only at c0 c1 c2 c3 c4 c5 c6
      have hjI : (j : Int) < (n : Int) := by omega
      have HLT := Lib.hid hlt
      have HK2 := Lib.hid (HBK.out.alloc (.cells #[.int .i64 gen, .int .i64 tag, .int .i64 num, .int .i64 refs, .int .i64 next, .string B, .int .i64 at_] 103))
      obtain ⟨old, hold⟩ : ∃ old, cur[j]? = some old := ⟨_, Array.getElem?_eq_getElem (by rw [HCS.out]; exact hlt)⟩
      have k0 := (HK2.out.cell j).trans hold
      have f0 := HK2.out.frozen j
      have HW1 : Hid (w1.heap.size < wr.heap.size) := Lib.hid HBK.out.lt
      clear hy hyb hjl hlt hold HC1
      go_wp2_with fail
      refine ⟨⟨j + 1, cur.setIfInBounds j (.int .i64 at_), HLT.out, by go_num, HK2.out.put j _, by rw [Array.size_setIfInBounds]; exact HCS.out, ?_, (HBR.out.alloc HBR.out.size _).setCell (Nat.le_refl _) _⟩, by have := HLT.out; simp [intOf]; omega⟩
      rw [HSN.out, ← HTK.out, Array.toList_setIfInBounds, List.take_add_one, List.take_set_of_le (Nat.le_refl _), List.getElem?_set_self (by rw [Array.length_toList, HCS.out]; exact HLT.out)]
      rfl
    · obtain rfl : j = n := by omega
      have htk : l.take j = l := List.take_of_length_le (by rw [← HN.out]; exact Nat.le_refl _)
      have HT : Hid (cur.toList = (l.map (·.at_)).map (Value.int .i64)) := Lib.hid (by have h := HTK.out; rw [htk, List.take_of_length_le (by rw [Array.length_toList, HCS.out]; exact Nat.le_refl _)] at h; exact h)
      clear htk hj HC1
      go_wp2_with fail
      go_ret2
      rw [HE.out, List.length_map, ← HN.out]
      refine ⟨some ⟨w1.heap.size, 0, none⟩, j, rfl, ⟨by rw [List.length_map, List.length_map, ← HN.out]; omega, .inr ⟨w1.heap.size, j, cur, rfl, HB1.out.size, HBK.out, Nat.le_refl _, by unfold maxLen; omega, by rw [HCS.out, Nat.mul_one], ?_⟩⟩, (fun h => by cases h), HB1.out.trans (HBR.out.mono HB1.out.size)⟩
      rw [HT.out, List.take_of_length_le (by rw [List.length_map, List.length_map, ← HN.out]; omega)]
/-- What Drop tells, and leaves. -/
def cdropE (K : KD) (t : Int) : Int := if (chainR K t).2 ≠ 0 then (chainR K t).2 else dropE K (secsC (chainR K t))
def cdropK (K : KD) (t : Int) : KD := if (chainR K t).2 ≠ 0 then K else dropK K (secsC (chainR K t))
set_option maxRecDepth 100000 in
set_option maxHeartbeats 4000000 in
theorem cdrop_any {w0 w : World} {g gd m N : Nat} {K : KD} {Ms : List MK} {h : List ByteArray} {c0 : Nat} (s : DMk w0 w g gd m N K Ms) (r : Run11 N K h c0) {t0 : Int} (ht : I64 t0) :
    Calls Tryz.prog 17 #[.pointer (some ⟨g, 0, none⟩), .int .i64 t0] w fun e w' => e = .returned (.int .i64 (cdropE K t0)) ∧ DMk w0 w' g gd m N (cdropK K t0) Ms := by
  have HSE := Lib.hid (csectors_any s.st r ht)
  have HS := Lib.hid s
  have HR := Lib.hid r
  obtain ⟨l, hl⟩ : ∃ l, l = secsC (chainR K t0) := ⟨_, rfl⟩
  obtain ⟨er, her⟩ : ∃ er, er = (chainR K t0).2 := ⟨_, rfl⟩
  have hll : l.length ≤ 40 := by rw [hl]; exact secsC_len K t0
  rw [← hl, ← her] at HSE
  have HE : Hid (cdropE K t0 = if er ≠ 0 then er else dropE K l) := Lib.hid (by rw [hl, her]; rfl)
  have HK : Hid (cdropK K t0 = if er ≠ 0 then K else dropK K l) := Lib.hid (by rw [hl, her]; rfl)
  rw [HE.out, HK.out]
  obtain ⟨n, hn⟩ : ∃ n, n = l.length := ⟨_, rfl⟩
  rw [← hn] at HSE
  have HN := Lib.hid hn
  have HLL := Lib.hid hll
  clear s r ht hl her HE HK hn hll
  by_cases he : er = 0
  rotate_left
  · have z0 : (er == 0) = false := by simpa using he
    rw [if_pos he, if_pos he]
    clear he
    go_enter Tryz.func17, Tryz.ntmps17
    go_wp2_with fail
    refine HSE.out.mono ?_
    rintro e w1 ⟨A, c, rfl, -, -, hb1⟩
    have HS1 := Lib.hid (HS.out.below hb1)
    clear hb1
    go_wp2_with fail
    go_ret
    exact ⟨rfl, HS1.out⟩
  subst he
  rw [if_neg (by simp), if_neg (by simp)]
  go_enter Tryz.func17, Tryz.ntmps17
  go_wp2_with fail
  refine HSE.out.mono ?_
  rintro e w1 ⟨A, c, rfl, hrow, -, hb1⟩
  have HS1 := Lib.hid (HS.out.below hb1)
  obtain ⟨A', c', e', -, hint⟩ := own_ints hrow
  injection e' with e1 e2 e3
  subst e1 e3
  have HIN := Lib.hid hint
  clear hb1 hrow hint e2
  go_wp2_with fail
  refine (dmk_drop HS1.out HR.out A n c l HN.out.symm HIN.out (by rw [HN.out]; have := HLL.out; omega)).mono ?_
  rintro e w2 ⟨rfl, hs2⟩
  go_wp2_with fail
  go_ret
  exact ⟨rfl, hs2⟩
end Go.Proofs.YtolbnkpakjdnnaaGreatDoor
