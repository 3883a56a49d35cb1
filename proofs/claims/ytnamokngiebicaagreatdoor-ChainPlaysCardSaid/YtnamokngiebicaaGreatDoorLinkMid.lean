/-
  A chain on a fresh Desk: what each call tells of one that was put; the statements' first call. No statement is proved here.
-/
import Derived.Test.YtnamokngiebicaaGreatDoorLinkWalk
import Derived.Test.YtnamokngiebicaaGreatDoorBookWrites
import Derived.Test.YtnamokngiebicaaGreatDoorLinkSmall
import Derived.Test.YtnamokngiebicaaGreatDoorLinkOn
import Derived.Test.YtnamokngiebicaaGreatDoorLinkGet
import Derived.Test.YtnamokngiebicaaGreatDoorIntsView
import Derived.Test.YtnamokngiebicaaGreatDoorDiskAlive
namespace Go.Proofs.YtnamokngiebicaaGreatDoor
open Go.RowKit

def secsC (R : List LK × Int) : List Int := if R.2 ≠ 0 then [] else R.1.map (·.at_)
theorem chainR_len' (K : KD) (t : Int) : (chainR K t).1.length ≤ 40 := by
  have := walkC_len (getR K) 40 [] t
  simpa [chainR] using this
theorem secsC_len (K : KD) (t : Int) : (secsC (chainR K t)).length ≤ 40 := by
  unfold secsC
  split
  · simp
  · rw [List.length_map]; exact chainR_len' K t
set_option maxRecDepth 100000 in
set_option maxHeartbeats 8000000 in
theorem csectors_any {w0 w : World} {g gd m N : Nat} {K : KD} {h : List ByteArray} {c0 : Nat} (s : DSt w0 w g gd m K) (r : Run11 N K h c0) {t0 : Int} (ht : I64 t0) :
    Calls Tryz.prog 43 #[.pointer (some ⟨g, 0, none⟩), .int .i64 t0] w fun e w' => ∃ A c, e = .returned (.tuple #[.slice A (secsC (chainR K t0)).length c, .int .i64 (chainR K t0).2]) ∧ w'.ownsRow w.heap.size 3 1 (.slice A (secsC (chainR K t0)).length c) (secsC (chainR K t0)).length ((secsC (chainR K t0)).map (Value.int .i64)) ∧ (A = none → c = 0) ∧ Below w.heap.size w w' := by
  have HWK : Hid (∀ w1, Below w.heap.size w w1 → Calls Tryz.prog 78 #[.pointer (some ⟨g, 0, none⟩), .int .i64 t0] w1 fun e w' => WalkSays w1 (chainR K t0) e w') := Lib.hid (fun w1 hb => kwalk_any (s.below hb) r ht)
  have hlen := chainR_len' K t0
  have hpos : (chainR K t0).2 = 0 → 0 < (chainR K t0).1.length := fun h => Nat.lt_of_le_of_lt (Nat.zero_le _) (walkC_ok (getR K) 40 [] t0 h)
  obtain ⟨R, hR⟩ : ∃ R, R = chainR K t0 := ⟨_, rfl⟩
  rw [← hR] at HWK hlen hpos ⊢
  obtain ⟨l, er⟩ := R
  simp only at hlen hpos
  obtain ⟨n, hn⟩ : ∃ n, n = l.length := ⟨_, rfl⟩
  have HN := Lib.hid hn
  have hnI : (n : Int) ≤ 40 := by omega
  have HP := Lib.hid hpos
  clear hR s r ht hlen hpos hn
  by_cases he : er = 0
  rotate_left
  · have z0 : (er == 0) = false := by simpa using he
    have HE : Hid (secsC (l, er) = []) := Lib.hid (by unfold secsC; rw [if_pos he])
    clear he
    go_enter Tryz.func43, Tryz.ntmps43
    go_wp2_with fail
    refine (HWK.out _ (Below.refl _ _)).mono ?_
    rintro e w1 ⟨A, c, rfl, -, hb1⟩
    go_wp2_with fail
    go_ret2
    rw [HE.out]
    exact ⟨none, 0, rfl, World.ownsRow_nil _ _ _ _, fun _ => rfl, hb1⟩
  subst he
  have hnp : 0 < n := by rw [HN.out]; exact HP.out rfl
  have HE : Hid (secsC (l, 0) = l.map (·.at_)) := Lib.hid (by unfold secsC; rw [if_neg (by simp)])
  obtain ⟨i0, hi, hz0, hz1, hz2⟩ := info_parts clints_info
  obtain ⟨M, hM⟩ : ∃ M, M = madeCells (Value.int .i64 0).cells (((n : Nat) : Int).toNat * i0.size) := ⟨_, rfl⟩
  have hMs : M.size = n := by rw [hM, size_madeCells, hz1]; simp
  have hmk : ∀ W : World, (Instr.makeSlice 39 (.int .i64 (n : Int)) (.int .i64 (n : Int))).run Tryz.prog W = .ok (.slice (some ⟨W.heap.size, 0, none⟩) n n) (W.alloc (.cells M 3)) := fun W => by
    have h := run_make (P := Tryz.prog) W 39 3 i0 (.int .i64 0) Tryz.underlying39 hi hz0 .i64 .i64 (n : Int) (n : Int) (by omega) (by omega) (by rw [hz2]; omega) (by omega)
    rw [← hM] at h
    simpa using h
  have HMS := Lib.hid hMs
  clear hM hMs hi hz0 hz1 hz2
  go_enter Tryz.func43, Tryz.ntmps43
  go_wp2_with fail
  refine (HWK.out _ (Below.refl _ _)).mono ?_
  rintro e w1 ⟨A, c, rfl, hrow, hb1⟩
  rw [show ((l, (0 : Int)).1.length) = n from HN.out.symm] at hrow ⊢
  obtain ⟨b, rfl, hbb, hblt, hcel⟩ := links_cells hrow hnp
  have HB1 : Hid (Below w.heap.size w w1) := Lib.hid hb1
  have HC1 : Hid (∀ (j : Nat) (x : LK), l[j]? = some x → LinkCells w1 b (j * 7) x) := Lib.hid hcel
  have HBL : Hid (b < w1.heap.size) := Lib.hid hblt
  clear hrow hbb hblt hcel hb1 HWK
  go_wp2_with fail
  go_loopw [25] (fun i wr => ∃ (j : Nat) (cur : Array Value), j ≤ n ∧ i = .int .i64 j ∧ Blk wr w1.heap.size 3 cur ∧ cur.size = n ∧ cur.toList.take j = ((l.take j).map (·.at_)).map (Value.int .i64) ∧ Below w1.heap.size w1 wr) (fun i _ => n - (intOf i).toNat)
  case atStart => exact ⟨0, M, Nat.zero_le _, rfl, Blk.new _ _ _, HMS.out, by simp, (Below.refl _ _).alloc (Nat.le_refl _) _⟩
  case round =>
    obtain ⟨j, cur, hj, rfl, hbk, hcs, htk, hbr⟩ := hrel
    have HBR := Lib.hid hbr
    have HBK := Lib.hid hbk
    have HCS := Lib.hid hcs
    have HTK := Lib.hid htk
    clear hbk hbr hcs htk
    by_cases hlt : j < n
    · have hjl : j < l.length := by rw [← HN.out]; exact hlt
      obtain ⟨y, hy⟩ : ∃ y, l[j]? = some y := ⟨_, List.getElem?_eq_getElem hjl⟩
      have hyb := HBR.out.block b HBL.out
      obtain ⟨c0, c1, c2, c3, c4, c5, c6⟩ := HC1.out j y hy
      have c0 := (World.cell?_of_block (a := ⟨b, j * 7, none⟩) hyb).trans c0
      have c1 := (World.cell?_of_block (a := ⟨b, j * 7 + 1, none⟩) hyb).trans c1
      have c2 := (World.cell?_of_block (a := ⟨b, j * 7 + 2, none⟩) hyb).trans c2
      have c3 := (World.cell?_of_block (a := ⟨b, j * 7 + 3, none⟩) hyb).trans c3
      have c4 := (World.cell?_of_block (a := ⟨b, j * 7 + 4, none⟩) hyb).trans c4
      have c5 := (World.cell?_of_block (a := ⟨b, j * 7 + 5, none⟩) hyb).trans c5
      have c6 := (World.cell?_of_block (a := ⟨b, j * 7 + 6, none⟩) hyb).trans c6
      have HSN : Hid (((l.take (j + 1)).map (·.at_)).map (Value.int .i64) = ((l.take j).map (·.at_)).map (Value.int .i64) ++ [.int .i64 y.at_]) := Lib.hid (by rw [List.take_add_one, hy]; simp)
      obtain ⟨gen, tag, num, refs, next, B, at_⟩ := y
      simp only at c0 c1 c2 c3 c4 c5 c6
      have hjI : (j : Int) < (n : Int) := by omega
      have HLT := Lib.hid hlt
      have HK2 := Lib.hid (HBK.out.alloc (.cells #[.int .i64 gen, .int .i64 tag, .int .i64 num, .int .i64 refs, .int .i64 next, .string B, .int .i64 at_] 118))
      obtain ⟨old, hold⟩ : ∃ old, cur[j]? = some old := ⟨_, Array.getElem?_eq_getElem (by rw [HCS.out]; exact hlt)⟩
      have k0 := (HK2.out.cell j).trans hold
      have f0 := HK2.out.frozen j
      have HW1 : Hid (w1.heap.size < wr.heap.size) := Lib.hid HBK.out.lt
      clear hy hyb hjl hlt hold HC1
      go_wp2_with fail
      refine ⟨⟨j + 1, cur.setIfInBounds j (.int .i64 at_), HLT.out, by go_num, HK2.out.put j _, by rw [Array.size_setIfInBounds]; exact HCS.out, ?_, (HBR.out.alloc HBR.out.size _).setCell (Nat.le_refl _) _⟩, by have := HLT.out; simp [intOf]; omega⟩
      rw [HSN.out, ← HTK.out, Array.toList_setIfInBounds, List.take_add_one, List.take_set_of_le (Nat.le_refl _), List.getElem?_set_self (by rw [Array.length_toList, HCS.out]; exact HLT.out)]
      rfl
    · obtain rfl : j = n := by omega
      have htk : l.take j = l := List.take_of_length_le (by rw [← HN.out]; exact Nat.le_refl _)
      have HT : Hid (cur.toList = (l.map (·.at_)).map (Value.int .i64)) := Lib.hid (by have h := HTK.out; rw [htk, List.take_of_length_le (by rw [Array.length_toList, HCS.out]; exact Nat.le_refl _)] at h; exact h)
      clear htk hj HC1
      go_wp2_with fail
      go_ret2
      rw [HE.out, List.length_map, ← HN.out]
      refine ⟨some ⟨w1.heap.size, 0, none⟩, j, rfl, ⟨by rw [List.length_map, List.length_map, ← HN.out]; omega, .inr ⟨w1.heap.size, j, cur, rfl, HB1.out.size, HBK.out, Nat.le_refl _, by unfold maxLen; omega, by rw [HCS.out, Nat.mul_one], ?_⟩⟩, (fun h => by cases h), HB1.out.trans (HBR.out.mono HB1.out.size)⟩
      rw [HT.out, List.take_of_length_le (by rw [List.length_map, List.length_map, ← HN.out]; omega)]
/-- What Drop tells, and leaves. -/
def cdropE (K : KD) (t : Int) : Int := if (chainR K t).2 ≠ 0 then (chainR K t).2 else dropE K (secsC (chainR K t))
def cdropK (K : KD) (t : Int) : KD := if (chainR K t).2 ≠ 0 then K else dropK K (secsC (chainR K t))
set_option maxRecDepth 100000 in
set_option maxHeartbeats 4000000 in
theorem cdrop_any {w0 w : World} {g gd m N : Nat} {K : KD} {Ms : List MK} {h : List ByteArray} {c0 : Nat} (s : DMk w0 w g gd m N K Ms) (r : Run11 N K h c0) {t0 : Int} (ht : I64 t0) :
    Calls Tryz.prog 40 #[.pointer (some ⟨g, 0, none⟩), .int .i64 t0] w fun e w' => e = .returned (.int .i64 (cdropE K t0)) ∧ DMk w0 w' g gd m N (cdropK K t0) Ms := by
  have HSE := Lib.hid (csectors_any s.st r ht)
  have HS := Lib.hid s
  have HR := Lib.hid r
  obtain ⟨l, hl⟩ : ∃ l, l = secsC (chainR K t0) := ⟨_, rfl⟩
  obtain ⟨er, her⟩ : ∃ er, er = (chainR K t0).2 := ⟨_, rfl⟩
  have hll : l.length ≤ 40 := by rw [hl]; exact secsC_len K t0
  rw [← hl, ← her] at HSE
  have HE : Hid (cdropE K t0 = if er ≠ 0 then er else dropE K l) := Lib.hid (by rw [hl, her]; rfl)
  have HK : Hid (cdropK K t0 = if er ≠ 0 then K else dropK K l) := Lib.hid (by rw [hl, her]; rfl)
  rw [HE.out, HK.out]
  obtain ⟨n, hn⟩ : ∃ n, n = l.length := ⟨_, rfl⟩
  rw [← hn] at HSE
  have HN := Lib.hid hn
  have HLL := Lib.hid hll
  clear s r ht hl her HE HK hn hll
  by_cases he : er = 0
  rotate_left
  · have z0 : (er == 0) = false := by simpa using he
    rw [if_pos he, if_pos he]
    clear he
    go_enter Tryz.func40, Tryz.ntmps40
    go_wp2_with fail
    refine HSE.out.mono ?_
    rintro e w1 ⟨A, c, rfl, -, -, hb1⟩
    have HS1 := Lib.hid (HS.out.below hb1)
    clear hb1
    go_wp2_with fail
    go_ret
    exact ⟨rfl, HS1.out⟩
  subst he
  rw [if_neg (by simp), if_neg (by simp)]
  go_enter Tryz.func40, Tryz.ntmps40
  go_wp2_with fail
  refine HSE.out.mono ?_
  rintro e w1 ⟨A, c, rfl, hrow, -, hb1⟩
  have HS1 := Lib.hid (HS.out.below hb1)
  obtain ⟨A', c', e', -, hint⟩ := own_ints hrow
  injection e' with e1 e2 e3
  subst e1 e3
  have HIN := Lib.hid hint
  clear hb1 hrow hint e2
  go_wp2_with fail
  refine (dmk_drop HS1.out HR.out A n c l HN.out.symm HIN.out (by rw [HN.out]; have := HLL.out; omega)).mono ?_
  rintro e w2 ⟨rfl, hs2⟩
  go_wp2_with fail
  go_ret
  exact ⟨rfl, hs2⟩
end Go.Proofs.YtnamokngiebicaaGreatDoor

namespace Go.Proofs.YtnamokngiebicaaGreatDoor
open Go.RowKit

def firstC (K : KD) (t : Int) : LK := (chainR K t).1.headD LK.zero
def refsX (x : LK) (by_ : Int) : LK := { x with refs := x.refs + by_ }
/-- What Refs tells (the number, the error), and leaves. -/
def refsE (K : KD) (t by_ : Int) : Int × Int :=
  if (chainR K t).2 ≠ 0 then (0, (chainR K t).2)
  else if by_ < -(firstC K t).refs ∨ 60000 - (firstC K t).refs < by_ then (0, 15)
  else if setE K t (bs (refsX (firstC K t) by_).text) ≠ 0 then (0, setE K t (bs (refsX (firstC K t) by_).text)) else ((firstC K t).refs + by_, 0)
def refsK (K : KD) (t by_ : Int) : KD :=
  if (chainR K t).2 ≠ 0 then K
  else if by_ < -(firstC K t).refs ∨ 60000 - (firstC K t).refs < by_ then K
  else setK K t (bs (refsX (firstC K t) by_).text)
theorem readL_true {b : ByteArray} (h : (readL b).2 = true) : 1 ≤ (readL b).1.gen ∧ (readL b).1.gen ≤ 3 ∧ 0 ≤ (readL b).1.tag ∧ (readL b).1.tag ≤ 200 ∧ (readL b).1.refs ≤ 60000 ∧ (readL b).1.data.size ≤ 236 := by
  unfold readL at h ⊢
  split at h
  · cases h
  · rename_i he
    rw [if_neg he]
    have h : okR b = true := h
    unfold okR at h
    simp only [Bool.and_eq_true, decide_eq_true_eq] at h
    obtain ⟨⟨⟨⟨-, -⟩, h3⟩, h4⟩, h5⟩ := h
    have h3 := of_decide_eq_true h3
    exact ⟨h3.1, h3.2.1, h3.2.2.1, h3.2.2.2, h4, h5⟩
theorem num_lt (s : Rd) (k : Nat) : 0 ≤ (s.num k).1 ∧ (s.num k).1 < ((256 ^ k : Nat) : Int) := by
  have hp : 0 < 256 ^ k := Nat.pow_pos (by decide)
  unfold Rd.num
  cases ht : (s.take k).2.1 with
  | true =>
    have hsz := Rd.take_size ht
    have hl := low_lt (s.take k).1.data.toList
    rw [← Lib.size_eq, hsz] at hl
    simp only [if_true]
    split
    · constructor
      · exact Int.le_refl _
      · omega
    · constructor
      · omega
      · exact Int.ofNat_lt.2 hl
  | false =>
    simp only [Bool.false_eq_true, if_false]
    omega
theorem readL_nums (b : ByteArray) : (0 ≤ (readL b).1.num ∧ (readL b).1.num < 256) ∧ (0 ≤ (readL b).1.refs ∧ (readL b).1.refs < 65536) ∧ (0 ≤ (readL b).1.next ∧ (readL b).1.next < 65536) := by
  unfold readL
  split
  · exact ⟨⟨by decide, by decide⟩, ⟨by decide, by decide⟩, ⟨by decide, by decide⟩⟩
  · exact ⟨num_lt _ 1, num_lt _ 2, num_lt _ 2⟩
theorem walkC_links {G : Int → ByteArray × Int} : ∀ (n : Nat) (l : List LK) (t : Int), (∀ x ∈ l, x.Ok) → ∀ x ∈ (walkC G n l t).1, x.Ok
  | 0, l, t, _ => by intro x hx; cases hx
  | n + 1, l, t, h => by
    unfold walkC
    split
    · intro x hx; cases hx
    · split
      · intro x hx; cases hx
      · rename_i hno
        have hr : (readL (G t).1).2 = true := by
          cases hh : (readL (G t).1).2 with
          | true => rfl
          | false => exact absurd (.inl hh) hno
        have h2 : ∀ x ∈ l ++ [((readL (G t).1).1.put t)], x.Ok := by
          intro x hx
          rcases List.mem_append.1 hx with hx | hx
          · exact h x hx
          · rw [List.mem_singleton.1 hx]
            obtain ⟨a1, a2, a3, a4, a5, a6⟩ := readL_true hr
            obtain ⟨b1, b2, b3⟩ := readL_nums (G t).1
            exact ⟨⟨a1, a2, a3, a4⟩, b1, ⟨b2.1, a5⟩, b3, a6⟩
        split
        · exact h2
        · exact walkC_links n _ _ h2
theorem firstC_ok {K : KD} {t : Int} (he : (chainR K t).2 = 0) : (firstC K t).Ok ∧ (chainR K t).1[0]? = some (firstC K t) := by
  have hp := walkC_ok (getR K) 40 [] t he
  have hl := walkC_links (G := getR K) 40 [] t (fun x hx => by cases hx)
  unfold firstC
  cases hc : (chainR K t).1 with
  | nil =>
    have : (chainR K t).1 = (walkC (getR K) 40 [] t).1 := rfl
    rw [← this, hc] at hp
    exact absurd hp (by simp)
  | cons x r =>
    refine ⟨hl x ?_, rfl⟩
    show x ∈ (chainR K t).1
    rw [hc]
    simp
set_option maxRecDepth 100000 in
set_option maxHeartbeats 8000000 in
theorem crefs_any {w0 w : World} {g gd m N : Nat} {K : KD} {Ms : List MK} {h : List ByteArray} {c0 : Nat} (s : DMk w0 w g gd m N K Ms) (r : Run11 N K h c0) (hm : m < 1000000) {t0 by_ : Int} (ht : I64 t0) (hb : I64 by_) :
    Calls Tryz.prog 41 #[.pointer (some ⟨g, 0, none⟩), .int .i64 t0, .int .i64 by_] w fun e w' => e = .returned (.tuple #[.int .i64 (refsE K t0 by_).1, .int .i64 (refsE K t0 by_).2]) ∧ DMk w0 w' g gd (m + 1) N (refsK K t0 by_) Ms := by
  have HWK := Lib.hid (kwalk_any s.st r ht)
  have HS := Lib.hid s
  have HR := Lib.hid r
  have HM := Lib.hid hm
  have hfo := fun (he : (chainR K t0).2 = 0) => firstC_ok he
  obtain ⟨x, hx⟩ : ∃ x, x = firstC K t0 := ⟨_, rfl⟩
  obtain ⟨er, her⟩ : ∃ er, er = (chainR K t0).2 := ⟨_, rfl⟩
  have HE : Hid (refsE K t0 by_ = if er ≠ 0 then (0, er) else if by_ < -x.refs ∨ 60000 - x.refs < by_ then (0, 15) else if setE K t0 (bs (refsX x by_).text) ≠ 0 then (0, setE K t0 (bs (refsX x by_).text)) else (x.refs + by_, 0)) := Lib.hid (by rw [hx, her]; rfl)
  have HK : Hid (refsK K t0 by_ = if er ≠ 0 then K else if by_ < -x.refs ∨ 60000 - x.refs < by_ then K else setK K t0 (bs (refsX x by_).text)) := Lib.hid (by rw [hx, her]; rfl)
  rw [HE.out, HK.out]
  rw [← hx, ← her] at hfo
  obtain ⟨l, hl⟩ : ∃ l, l = (chainR K t0).1 := ⟨_, rfl⟩
  have hR : chainR K t0 = (l, er) := by rw [hl, her]
  rw [← hl] at hfo
  rw [hR] at HWK
  obtain ⟨n, hn⟩ : ∃ n, n = l.length := ⟨_, rfl⟩
  have HN := Lib.hid hn
  have HF := Lib.hid hfo
  obtain ⟨hb0, hb1⟩ := hb
  clear s r ht hx her HE HK hn hfo hl hR hm
  by_cases he : er = 0
  rotate_left
  · have z0 : (er == 0) = false := by simpa using he
    rw [if_pos he, if_pos he]
    clear he
    go_enter Tryz.func41, Tryz.ntmps41
    go_wp2_with fail
    refine HWK.out.mono ?_
    rintro e w1 ⟨A, c, rfl, -, hb1⟩
    have HS1 := Lib.hid (HS.out.below hb1)
    clear hb1
    go_wp2_with fail
    go_ret2
    exact ⟨rfl, HS1.out.mono (by omega)⟩
  subst he
  have hz0 : ¬ ((0 : Int) ≠ 0) := by simp
  rw [if_neg hz0, if_neg hz0]
  clear hz0
  obtain ⟨hxo, hx0⟩ := HF.out rfl
  have hnp : 0 < n := by
    rw [HN.out]
    rcases Nat.eq_zero_or_pos l.length with h0 | h0
    · rw [List.getElem?_eq_none (by omega)] at hx0; cases hx0
    · exact h0
  have hnpI : 0 < (n : Int) := by omega
  have hr0 := hxo.refs
  have HX0 := Lib.hid hx0
  have HWK2 : Hid (Calls Tryz.prog 78 #[.pointer (some ⟨g, 0, none⟩), .int .i64 t0] w fun e w' => ∃ b c, e = .returned (.tuple #[.slice (some ⟨b, 0, none⟩) n c, .int .i64 0]) ∧ LinkCells w' b 0 x ∧ Below w.heap.size w w') := Lib.hid (HWK.out.mono (fun e w1 ⟨A, c, he, hrow, hb1⟩ => by
    rw [show ((l, (0 : Int)).1.length) = n from HN.out.symm] at he hrow
    obtain ⟨b, rfl, hbb, hblt, hcel⟩ := links_cells hrow hnp
    have hc := hcel 0 x HX0.out
    rw [Nat.zero_mul] at hc
    exact ⟨b, c, he, hc, hb1⟩))
  have HXO := Lib.hid hxo
  obtain ⟨X0, hX0⟩ : ∃ X0, X0 = x := ⟨_, rfl⟩
  have HXE := Lib.hid hX0
  rw [← hX0] at HXO
  obtain ⟨gen, tag, num, refs, next, B, at_⟩ := x
  simp only at hr0 ⊢
  obtain ⟨r0, r1⟩ := hr0
  have q1 : IntKind.i64.wrap (-refs) = -refs := by rw [IntKind.wrap_i64]; omega
  have q2 : IntKind.i64.wrap (60000 - refs) = 60000 - refs := by rw [IntKind.wrap_i64]; omega
  clear hxo hx0 HF HWK HX0 HN hX0
  by_cases h1 : by_ < -refs
  · rw [if_pos (.inl h1), if_pos (.inl h1)]
    go_enter Tryz.func41, Tryz.ntmps41
    go_wp2_with fail
    refine HWK2.out.mono ?_
    rintro e w1 ⟨b, c, rfl, ⟨e0, e1, e2, e3, e4, e5, e6⟩, hb1⟩
    simp only [Nat.zero_add] at e0 e1 e2 e3 e4 e5 e6
    have HS1 := Lib.hid (HS.out.below (hb1.trans (((Below.refl w1.heap.size w1).alloc (Nat.le_refl _) (.cells #[.int .i64 gen, .int .i64 tag, .int .i64 num, .int .i64 refs, .int .i64 next, .string B, .int .i64 at_] 118)).mono hb1.size)))
    clear hb1
    go_wp2_with fail
    go_ret2
    exact ⟨rfl, HS1.out.mono (by omega)⟩
  by_cases h2 : 60000 - refs < by_
  · rw [if_pos (.inr h2), if_pos (.inr h2)]
    go_enter Tryz.func41, Tryz.ntmps41
    go_wp2_with fail
    refine HWK2.out.mono ?_
    rintro e w1 ⟨b, c, rfl, ⟨e0, e1, e2, e3, e4, e5, e6⟩, hb1⟩
    simp only [Nat.zero_add] at e0 e1 e2 e3 e4 e5 e6
    have HS1 := Lib.hid (HS.out.below (hb1.trans (((Below.refl w1.heap.size w1).alloc (Nat.le_refl _) (.cells #[.int .i64 gen, .int .i64 tag, .int .i64 num, .int .i64 refs, .int .i64 next, .string B, .int .i64 at_] 118)).mono hb1.size)))
    clear hb1
    go_wp2_with fail
    go_ret2
    exact ⟨rfl, HS1.out.mono (by omega)⟩
  have hno : ¬ (by_ < -refs ∨ 60000 - refs < by_) := by omega
  rw [if_neg hno, if_neg hno]
  obtain ⟨rr, hrr⟩ : ∃ rr, rr = refs + by_ := ⟨_, rfl⟩
  have q3 : IntKind.i64.wrap (refs + by_) = rr := by rw [IntKind.wrap_i64, hrr]; omega
  have HOK : Hid ((LK.mk gen tag num rr next B at_).Ok) := Lib.hid (by
    have k := HXO.out
    rw [HXE.out] at k
    exact ⟨k.fit, k.num, by show 0 ≤ rr ∧ rr ≤ 60000; omega, k.next, k.data⟩)
  have HLAY : Hid (∀ w1, Calls Tryz.prog 77 #[.agg #[.int .i64 gen, .int .i64 tag, .int .i64 num, .int .i64 rr, .int .i64 next, .string B, .int .i64 at_]] w1 fun e w' => e = .returned (.string (bs (LK.mk gen tag num rr next B at_).text)) ∧ Below w1.heap.size w1 w') := Lib.hid (fun w1 => lklay_any (LK.mk gen tag num rr next B at_) w1 HOK.out)
  have hre : refsX (LK.mk gen tag num refs next B at_) by_ = LK.mk gen tag num rr next B at_ := by rw [hrr]; rfl
  rw [hre, ← hrr]
  obtain ⟨X, hX⟩ : ∃ X, X = bs (LK.mk gen tag num rr next B at_).text := ⟨_, rfl⟩
  rw [← hX] at HLAY ⊢
  have HXS : Hid (X.size ≤ 100000) := Lib.hid (by rw [hX, bs_size, HOK.out.text_len]; omega)
  obtain ⟨se, hse⟩ : ∃ se, se = setE K t0 X := ⟨_, rfl⟩
  rw [← hse]
  have HSE := Lib.hid hse
  obtain ⟨K', hK'⟩ : ∃ K', K' = setK K t0 X := ⟨_, rfl⟩
  rw [← hK']
  have HKE := Lib.hid hK'
  have HSET : Hid (∀ w2 b o, DMk w0 w2 g gd m N K (.held b o :: Ms) → Calls Tryz.prog 13 #[.pointer (some ⟨g, 0, none⟩), .int .i64 t0, .string X] w2 fun e w' => e = .returned (.int .i64 se) ∧ DMk w0 w' g gd (m + 1) N K' (.held b o :: Ms)) := Lib.hid (fun w2 b o hs => by
    rw [HSE.out, HKE.out]
    exact dmk_set hs HR.out HM.out t0 HXS.out)
  clear hno hrr hre hX hse hK'
  have go : ∀ (Q : Ending → World → Prop), (∀ w3, DMk w0 w3 g gd (m + 1) N K' Ms → Q (.returned (.tuple #[.int .i64 (if se ≠ 0 then 0 else rr), .int .i64 se])) w3) → Calls Tryz.prog 41 #[.pointer (some ⟨g, 0, none⟩), .int .i64 t0, .int .i64 by_] w Q := by
    intro Q hQ
    have HQ := Lib.hid hQ
    clear hQ
    go_enter Tryz.func41, Tryz.ntmps41
    go_wp2_with fail
    refine HWK2.out.mono ?_
    rintro e w1 ⟨b, c, rfl, ⟨e0, e1, e2, e3, e4, e5, e6⟩, hb1⟩
    simp only [Nat.zero_add] at e0 e1 e2 e3 e4 e5 e6
    have HS1 := Lib.hid (HS.out.below hb1)
    clear hb1
    go_wp2_with fail
    refine (HLAY.out _).mono ?_
    rintro e w2 ⟨rfl, hb2⟩
    have HS2 : Hid (DMk w0 w2 g gd m N K (.held w1.heap.size (.cells #[.int .i64 gen, .int .i64 tag, .int .i64 num, .int .i64 rr, .int .i64 next, .string B, .int .i64 at_] 118) :: Ms)) := Lib.hid (by
      have h0 := HS1.out.hold (w' := w1.alloc (.cells #[.int .i64 gen, .int .i64 tag, .int .i64 num, .int .i64 rr, .int .i64 next, .string B, .int .i64 at_] 118)) ((Below.refl _ _).alloc (Nat.le_refl _) _) (Nat.le_refl _) (Blk.new w1 118 #[.int .i64 gen, .int .i64 tag, .int .i64 num, .int .i64 rr, .int .i64 next, .string B, .int .i64 at_])
      exact h0.below hb2)
    clear hb2 HS1 e0 e1 e2 e3 e4 e5 e6
    go_wp2_with fail
    refine (HSET.out _ _ _ HS2.out).mono ?_
    rintro e w3 ⟨rfl, hs3⟩
    have cm := Blk.cell (show Blk w3 w1.heap.size 118 #[.int .i64 gen, .int .i64 tag, .int .i64 num, .int .i64 rr, .int .i64 next, .string B, .int .i64 at_] from hs3.held (by simp)) 3
    simp at cm
    have HS3 : Hid (DMk w0 w3 g gd (m + 1) N K' Ms) := Lib.hid (hs3.less (fun M hM => by simp [hM]))
    clear hs3 HS2
    by_cases hz : se = 0
    · subst hz
      go_wp2_with fail
      have := HQ.out w3 HS3.out
      rw [if_neg (by simp)] at this
      exact this
    · have z0 : (se == 0) = false := by simpa using hz
      have HZ := Lib.hid hz
      clear hz
      go_wp2_with fail
      have := HQ.out w3 HS3.out
      rw [if_pos HZ.out] at this
      exact this
  refine go _ (fun w3 h3 => ⟨?_, h3⟩)
  by_cases hz : se = 0
  · rw [if_neg (by simp [hz]), if_neg (by simp [hz]), hz]
  · rw [if_pos hz, if_pos hz]
end Go.Proofs.YtnamokngiebicaaGreatDoor

namespace Go.Proofs.YtnamokngiebicaaGreatDoor
open Go.RowKit

section
variable {K : KD} {gen tag refs : Int} {b : ByteArray} {ps : List Int}
theorem linksC_cons {n : Nat} (h : 0 < n) : ∃ r, linksC gen tag refs b ps n = (linkAt gen tag refs b ps 0).put (ps.getD 0 0) :: r := by
  obtain ⟨i, rfl⟩ : ∃ i, n = i + 1 := ⟨n - 1, by omega⟩
  unfold linksC
  rw [List.range_succ_eq_map, List.map_cons]
  exact ⟨_, rfl⟩
theorem bs_text_ne {x : LK} (h : x.Ok) : bs x.text ≠ .empty := fun e => by
  have := bs_size x.text
  rw [e, h.text_len] at this
  exact absurd this (by decide)
theorem on_getR (hc : ChainOn K.F gen tag refs b ps) : ∀ j, j < ps.length → getR K (ps.getD j 0) = (K.F (ps.getD j 0), 0) := fun j hj => by
  unfold getR
  rw [if_pos (by rw [hc.laid j hj]; exact bs_text_ne (hc.ok hj))]
theorem on_chainR (hc : ChainOn K.F gen tag refs b ps) : chainR K (ps.getD 0 0) = (linksC gen tag refs b ps ps.length, 0) := walk_all hc (on_getR hc)
theorem on_getC (hc : ChainOn K.F gen tag refs b ps) : getC (chainR K (ps.getD 0 0)) = (gen, tag, refs, b) := by
  rw [on_chainR hc]
  unfold getC
  rw [if_neg (by simp)]
  obtain ⟨r, hr⟩ := linksC_cons (gen := gen) (tag := tag) (refs := refs) (b := b) (ps := ps) (n := ps.length) (by have := hc.count; omega)
  show ((linksC gen tag refs b ps ps.length).headD LK.zero |>.gen, _, _, joinC (linksC gen tag refs b ps ps.length)) = _
  rw [join_whole hc.len]
  show ((linksC gen tag refs b ps ps.length).headD LK.zero |>.gen, (linksC gen tag refs b ps ps.length).headD LK.zero |>.tag, (linksC gen tag refs b ps ps.length).headD LK.zero |>.refs, b) = _
  rw [hr]
  rfl
theorem on_firstC (hc : ChainOn K.F gen tag refs b ps) : firstC K (ps.getD 0 0) = (linkAt gen tag refs b ps 0).put (ps.getD 0 0) := by
  unfold firstC
  rw [on_chainR hc]
  obtain ⟨r, hr⟩ := linksC_cons (gen := gen) (tag := tag) (refs := refs) (b := b) (ps := ps) (n := ps.length) (by have := hc.count; omega)
  show (linksC gen tag refs b ps ps.length).headD LK.zero = _
  rw [hr]
  rfl
theorem on_secs (hc : ChainOn K.F gen tag refs b ps) : secsC (chainR K (ps.getD 0 0)) = ps := by
  rw [on_chainR hc]
  unfold secsC
  rw [if_neg (by simp)]
  unfold linksC
  rw [List.map_map]
  apply List.ext_getElem?
  intro i
  rw [List.getElem?_map]
  rcases Nat.lt_or_ge i ps.length with h | h
  · rw [List.getElem?_range h, List.getElem?_eq_getElem h]
    show some (ps.getD i 0) = _
    rw [List.getD_eq_getElem?_getD, List.getElem?_eq_getElem h]
    rfl
  · rw [List.getElem?_eq_none (by simpa using h), List.getElem?_eq_none h]
    rfl
end
section
variable {w0 w : World} {g gd m N : Nat} {K : KD} {Ms : List MK} {h : List ByteArray} {c : Nat} {gen tag : Int} {b : ByteArray}
/-- A Put for which there is room. -/
structure PutYes (w0 w' : World) (g gd m N : Nat) (K : KD) (Ms : List MK) (h : List ByteArray) (c : Nat) (gen tag : Int) (b : ByteArray) (K' : KD) (ps : List Int) : Prop where
  st : DMk w0 w' g gd (m + 40) N K' Ms
  run : Run11 N K' h c
  on : ChainOn K'.F gen tag 1 b ps
  left : PutOn N gen tag b (needN b.size) K 0 K' (ps.getD 0 0) ps
theorem kput_yes (s : DMk w0 w g gd m N K Ms) (r : Run11 N K h c) (hm : m ≤ 900000) (hf : fitsC gen tag = true) (hb : b.size ≤ 9440) (hroom : K.H.length + needN b.size ≤ N - 111) :
    Calls Tryz.prog 37 #[.pointer (some ⟨g, 0, none⟩), .int .i64 gen, .int .i64 tag, .string b] w fun e w' => ∃ K' ps, e = .returned (.tuple #[.int .i64 (ps.getD 0 0), .int .i64 0]) ∧ PutYes w0 w' g gd m N K Ms h c gen tag b K' ps := by
  refine (kput_chain s r hm gen tag b (by omega)).mono ?_
  intro e w' p
  cases p with
  | arg a1 a2 a3 => rw [hf] at a1; cases a1
  | long a1 a2 a3 a4 => omega
  | full a1 a2 a3 a4 a5 =>
    have := (put_none _ K 0 r.hok).1 a3
    omega
  | done a1 a2 K' t a3 a4 a5 a6 =>
    obtain ⟨ps, q1, rfl, q3⟩ := put_chain r.ok.dim.2 r.hok r.ok.zero r.ok.one hf hb a3
    exact ⟨K', ps, a4, a5, a6, q1, q3⟩
set_option maxRecDepth 100000 in
set_option maxHeartbeats 4000000 in
/-- The law's Fresh. -/
theorem fresh12_any {N : Nat} (hN : 140 ≤ N ∧ N ≤ 400) (w0 w : World) (hb : Below w0.heap.size w0 w) :
    Calls Tryz.prog 35 #[.int .i64 (N : Int)] w fun e w' => ∃ g gd K h, e = .returned (.pointer (some ⟨g, 0, none⟩)) ∧ DMk w0 w' g gd 1 N K [] ∧ Fresh11 N K h := by
  have HN := Lib.hid (dnew_yes (N : Int) N w rfl (by omega) (by omega))
  have HMK : Hid (∀ (w1 : World) (gd : Nat) (O : List Nat), DiskAt w1 O gd (DS.fresh N (zeroB 256)) → (∀ b ∈ O, w0.heap.size ≤ b) → Below w0.heap.size w0 w1 → Calls Tryz.prog 8 #[.pointer (some ⟨gd, 0, none⟩)] w1 fun e w' => ∃ g K h, e = .returned (.tuple #[.pointer (some ⟨g, 0, none⟩), .int .i64 0]) ∧ DSt w0 w' g gd 1 K ∧ Fresh11 N K h) := Lib.hid (fun w1 gd O hd hO hb => (make_any hN w0 w1 hb hd hO).mono (fun e w' ⟨g, h, he, hs, hf⟩ => ⟨g, _, h, he, hs, hf⟩))
  have HB := Lib.hid hb
  clear hb
  go_enter Tryz.func35, Tryz.ntmps35
  go_wp2_with fail
  refine HN.out.mono ?_
  rintro e w1 ⟨gd, O, rfl, hd, hO, hb1⟩
  have HF1 := Lib.hid (HMK.out w1 gd O hd (fun b hb => Nat.le_trans HB.out.size (hO b hb)) (HB.out.trans (hb1.mono HB.out.size)))
  clear hd hO hb1 HMK HN
  go_wp2_with fail
  refine HF1.out.mono ?_
  rintro e w2 ⟨g, K, h, rfl, hs2, hf⟩
  have HS2 := Lib.hid hs2
  have HF := Lib.hid hf
  obtain ⟨gw, c0, -, -, -⟩ := hs2.wal
  clear hs2 hf HF1
  go_wp2_with fail
  go_ret
  exact ⟨g, gd, K, h, rfl, DMk.of HS2.out, HF.out⟩
theorem fresh_len {N : Nat} {K : KD} {h : List ByteArray} (f : Fresh11 N K h) : K.H.length = 2 := by rw [f.H]; rfl
set_option maxRecDepth 100000 in
set_option maxHeartbeats 8000000 in
theorem alive12_any (w : World) : Calls Tryz.prog 34 #[] w fun e w' => e = .returned (.bool true) ∧ Below w.heap.size w w' := by
  have HFR := Lib.hid (fresh12_any (N := 150) (by omega) w w (Below.refl _ _))
  obtain ⟨Z, hZ⟩ : ∃ Z, Z = zeroB 237 := ⟨_, rfl⟩
  have hmk : ∀ W : World, (Instr.makeSlice 101 (.int .i64 237) (.int .i64 237)).run Tryz.prog W = .ok (.slice (some ⟨W.heap.size, 0, none⟩) 237 237) (W.alloc (.cells (Lib.byteCells Z.data.toList).toArray 5)) := fun W => by rw [hZ]; exact zeros_make W 237 (by omega)
  have hcv : ∀ W : World, (convert 101 9 (.slice (some ⟨W.heap.size, 0, none⟩) 237 237)).run Tryz.prog (W.alloc (.cells (Lib.byteCells Z.data.toList).toArray 5)) = .ok (.string Z) (W.alloc (.cells (Lib.byteCells Z.data.toList).toArray 5)) := fun W => by rw [hZ]; exact zeros_convert W 237
  have HZS : Hid (Z.size = 237) := Lib.hid (by rw [hZ]; exact zeroB_size 237)
  have hzs : (Z.size : Int) = 237 := by rw [HZS.out]; rfl
  have HND := Lib.hid (fun w1 => lkneed_any 237 w1 (by omega))
  clear hZ
  go_enter Tryz.func34, Tryz.ntmps34
  go_wp2_with fail
  refine HFR.out.mono ?_
  rintro e w1 ⟨g, gd, K, h, rfl, hs1, hf⟩
  have HS1 := Lib.hid (hs1.below ((Below.refl w1.heap.size w1).alloc (Nat.le_refl _) (.cells (Lib.byteCells Z.data.toList).toArray 5)))
  have HP := Lib.hid (kput_yes (gen := 1) (tag := 5) (b := Z) HS1.out hf.run (by omega) (by decide) (by rw [HZS.out]; omega) (by rw [fresh_len hf, HZS.out]; decide))
  clear hs1 hf HFR HS1
  go_wp2_with fail
  refine HP.out.mono ?_
  rintro e w2 ⟨K2, ps, rfl, hp⟩
  have HPY := Lib.hid hp
  have hon := hp.on
  have HON := Lib.hid hon
  have hp0 := hon.range _ (hon.mem (i := 0) (by have := hon.count; omega))
  have HSE := Lib.hid (csectors_any (t0 := ps.getD 0 0) hp.st.st hp.run (by unfold I64; omega))
  have HGT := Lib.hid (fun w1 (hb : Below w2.heap.size w2 w1) => cget_any (t0 := ps.getD 0 0) (hp.st.st.below hb) hp.run (by unfold I64; omega))
  rw [on_secs hon, on_chainR hon] at HSE
  rw [on_getC hon, on_chainR hon] at HGT
  have hl2 : ps.length = 2 := by rw [hon.len, HZS.out]; rfl
  rw [hl2] at HSE
  have HL2 := Lib.hid hl2
  obtain ⟨p0, hp00⟩ : ∃ p0, p0 = ps.getD 0 0 := ⟨_, rfl⟩
  rw [← hp00] at HSE HGT
  have HP0 : Hid (ps[0]? = some p0) := Lib.hid (by rw [hp00, List.getD_eq_getElem?_getD, List.getElem?_eq_getElem (by rw [HL2.out]; omega)]; rfl)
  rw [← hp00]
  clear hp hon hp0 hl2 hp00 HP hmk hcv
  go_wp2_with fail
  refine HSE.out.mono ?_
  rintro e w3 ⟨A, c, rfl, hrow, -, hb3⟩
  obtain ⟨gr, cap, e1, _, hlt⟩ := hrow.form (by omega)
  injection e1 with e1 _ e3
  subst e1 e3
  have HB3 : Hid (Below w2.heap.size w2 w3) := Lib.hid hb3
  have HROW := Lib.hid hrow
  have HBW : Hid (Below w.heap.size w w3) := Lib.hid (HPY.out.st.st.at0.trans (hb3.mono HPY.out.st.st.at0.size))
  have HGT2 := Lib.hid (HGT.out w3 hb3)
  clear hrow hb3 hlt HSE HGT
  go_wp2_with fail
  refine HGT2.out.mono ?_
  rintro e w4 ⟨rfl, hb4⟩
  have hc0 := row_cell (row_below HROW.out hb4) (i := 0) (u := .int .i64 p0) (by rw [List.getElem?_map, HP0.out]; rfl)
  have HBX : Hid (Below w.heap.size w w4) := Lib.hid (HBW.out.trans (hb4.mono HBW.out.size))
  have hlt4 : gr < w4.heap.size := World.block_lt_of_cell? _ _ hc0
  have hc1 := (World.cell?_alloc_lt w4 (.cells #[.int .i64 1, .int .i64 5, .int .i64 1, .string Z] 79) ⟨gr, 0, none⟩ hlt4).trans hc0
  have hpp : (p0 == p0) = true := by simp
  show _
  clear hc0 hlt4 hb4 HGT2
  unfold chV
  go_wp2_with (go_at_call 47; refine (HND.out _).mono ?_; rintro e w5 ⟨rfl, rfl⟩)
  go_ret
  exact ⟨rfl, HBX.out.alloc HBX.out.size _⟩
end
end Go.Proofs.YtnamokngiebicaaGreatDoor
