/-
  The writer's texts and bytes.
-/
import Derived.Test.YtiagofgcinlnhaaGreatDoorWalPure
import Derived.Test.YtiagofgcinlnhaaGreatDoorShelf
import Derived.Test.YtiagofgcinlnhaaGreatDoorProg
import Derived.Test.YtiagofgcinlnhaaGreatDoorDiskPure
import Derived.BigQuiet
import Derived.Deep.QuietTactic
import Derived.Outline
namespace Go.Proofs.YtiagofgcinlnhaaGreatDoor
open Go.RowKit
theorem flush_is {w w2 : World} {g gn gs cn cs : Nat} {vd vk : Value} {S : DS} (h : DiskIs w g gn gs cn cs vd vk S) (hk : Keep [gs] w w2)
    (hs : w2.ownsRow 0 9 1 (.slice (some ⟨gs, 0, none⟩) S.safe.length cs) S.safe.length ((setAll S.safe S.dirty).map Value.string)) :
    DiskIs (w2.setCell ⟨g, 2, none⟩ (.slice none 0 0)) g gn gs cn cs (.slice none 0 0) vk { S with safe := setAll S.safe S.dirty, dirty := [] } := by
  have ha := h.apart
  simp only [List.nodup_cons, List.mem_cons, List.mem_append, not_or] at ha
  have l1 : (setAll S.safe S.dirty).length = S.safe.length := setAll_length _ _
  have hb : Blk w2 g 75 #[.slice (some ⟨gn, 0, none⟩) S.now.length cn, .slice (some ⟨gs, 0, none⟩) S.safe.length cs, vd, .bool S.on, .int .i64 (S.writes : Int), .bool S.armed, .int .i64 (S.left : Int), vk] :=
    (hk.block g h.blk.lt (by simp; exact ha.1.2.1)).trans h.blk
  refine ⟨?_, row_far (row_keep h.now hk ?_) ?_ _, ?_, World.ownsRow_nil _ _ _ _, row_far (row_keep h.keep hk ?_) ?_ _, ?_⟩
  · have := hb.put 2 (.slice none 0 0)
    rw [← l1] at this
    exact this
  · intro k e hm; cases e; exact ha.2.1.1 (List.mem_singleton.1 hm)
  · intro e; cases e; exact ha.1.1 rfl
  · rw [← l1] at hs
    exact row_far hs (by intro e; cases e; exact ha.1.2.1 rfl) _
  · intro k e hm; exact ha.2.2.1.2 (by rw [e, ← List.mem_singleton.1 hm]; simp)
  · intro e; exact ha.1.2.2.2 (by simp [e])
  · refine List.Nodup.sublist ?_ h.apart
    refine List.Sublist.cons_cons _ (List.Sublist.cons_cons _ (List.Sublist.cons_cons _ ?_))
    simp [Value.ownBlock]
theorem failed_same {S : DS} (h : S.fails = false) : S.failed.now = S.now ∧ S.failed.safe = S.safe ∧ S.failed.dirty = S.dirty := by
  unfold DS.fails at h
  unfold DS.failed
  split
  · rename_i ha
    split
    · exact ⟨rfl, rfl, rfl⟩
    · rename_i h0
      rw [ha] at h
      simp at h
      omega
  · exact ⟨rfl, rfl, rfl⟩
set_option maxRecDepth 100000 in
set_option maxHeartbeats 4000000 in
theorem dflush_any {w : World} {O : List Nat} {g : Nat} {S : DS} (h : DiskAt w O g S) (hok : S.Ok) (hlb : S.left ≤ 9223372036854775807) :
    Calls Tryz.prog 74 #[.pointer (some ⟨g, 0, none⟩)] w fun e w' => e = .returned (.int .i64 S.errF) ∧ Turns O g S.flush w w' := by
  have HON := Lib.hid (don_any h)
  have H := Lib.hid h
  by_cases hon : S.on = true
  · have HF := Lib.hid (dfails_any h hok hon hlb)
    rw [hon] at HON
    by_cases hf : S.fails = true
    · have R1 : S.errF = 14 := by unfold DS.errF; rw [if_pos hon, if_pos hf]
      have R2 : S.flush = S.failed := by unfold DS.flush; rw [if_pos hon, if_pos hf]
      rw [R1, R2]
      rw [hf] at HF
      clear R1 R2 h hok hlb hon hf
      go_enter Tryz.func74, Tryz.ntmps74
      go_wp2_with (first
        | (go_at_call 25; refine HON.out.mono ?_; rintro e w1 ⟨rfl, rfl⟩)
        | (go_at_call 113; refine HF.out.mono ?_; rintro e w1 ⟨rfl, hT⟩))
      go_ret
      exact ⟨rfl, hT⟩
    · have hff : S.fails = false := by simpa using hf
      have R1 : S.errF = 0 := by unfold DS.errF; rw [if_pos hon, if_neg hf]
      have R2 : S.flush = { S.failed with safe := S.now, dirty := [] } := by unfold DS.flush; rw [if_pos hon, if_neg hf]
      rw [R1, R2]
      rw [hff] at HF
      obtain ⟨s1, s2, s3⟩ := failed_same hff
      have hok1 := hok.failed
      obtain ⟨S1, hS1⟩ : ∃ S1, S1 = S.failed := ⟨_, rfl⟩
      rw [← hS1] at HF hok1 s1 s2 s3 ⊢
      have hnow : S.now = setAll S1.safe S1.dirty := by rw [← s1, hok1.now]
      rw [hnow]
      have HOK := Lib.hid hok1
      clear R1 R2 h hok hlb hon hf hff s1 s2 s3 hS1 hnow hok1
      go_enter Tryz.func74, Tryz.ntmps74
      go_upto_region 3 with (first
        | (go_at_call 25; refine HON.out.mono ?_; rintro e w1 ⟨rfl, rfl⟩)
        | (go_at_call 113; refine HF.out.mono ?_; rintro e w1 ⟨rfl, hT⟩))
      obtain ⟨O1, ⟨gn, gs, cn, cs, vd, vk, rfl, h1⟩, hO1, hK1⟩ := hT
      obtain ⟨p, cap, rfl, hcap, hcap2, _, _⟩ := row_slice h1.dirty
      have HO1 := Lib.hid hO1
      have HK1 := Lib.hid hK1
      have H1 := Lib.hid h1
      have ha := h1.apart
      simp only [List.nodup_cons, List.mem_cons, List.mem_append, not_or] at ha
      have HN : Hid (g ≠ gn ∧ g ≠ gs ∧ gn ≠ gs) := Lib.hid ⟨ha.1.1, ha.1.2.1, ha.2.1.1⟩
      have c2 := h1.blk.cell 2
      simp at c2
      obtain ⟨n, hn⟩ : ∃ n, n = S1.dirty.length := ⟨_, rfl⟩
      obtain ⟨ns, hns⟩ : ∃ ns, ns = S1.safe.length := ⟨_, rfl⟩
      have hgl := h1.blk.lt
      rw [← hn] at c2 hcap H1
      have HDN := Lib.hid hn
      have HNS := Lib.hid hns
      have hnI : (n : Int) ≤ 9223372036854775807 := by omega
      have hs0 := h1.safe
      rw [← hns] at hs0
      have HS0 := Lib.hid hs0
      clear hs0 ha h1 hn hns hcap hcap2 hO1 hK1 HON HF
      go_wp2_with fail
      go_loopw [17] (fun i wr => ∃ j : Nat, j ≤ n ∧ i = .int .i64 j ∧ Keep [gs] w1 wr ∧ wr.ownsRow 0 9 1 (.slice (some ⟨gs, 0, none⟩) ns cs) ns ((setAll S1.safe (S1.dirty.take j)).map Value.string)) (fun i _ => n - (intOf i).toNat)
      case atStart => exact ⟨0, Nat.zero_le _, rfl, Keep.refl _ _, by simpa [setAll] using HS0.out⟩
      case round =>
        obtain ⟨j, hj, rfl, hk, hrow⟩ := hrel
        have HK := Lib.hid hk
        have HR := Lib.hid hrow
        clear hk hrow
        have HK2 : Hid (Keep [gs, gn] w1 wr) := Lib.hid (HK.out.mono (by simp))
        have hgr : g < wr.heap.size := Nat.lt_of_lt_of_le hgl HK.out.size
        have HB : Hid (Blk wr g 75 _) := Lib.hid ((HK.out.block g hgl (by simp; exact HN.out.2.1)).trans H1.out.blk)
        by_cases hlt : j < n
        · have hjd : j < S1.dirty.length := by rw [← HDN.out]; exact hlt
          obtain ⟨x, hx⟩ : ∃ x, x = S1.dirty[j] := ⟨_, rfl⟩
          have hxj : S1.dirty[j]? = some x := by rw [hx]; exact List.getElem?_eq_getElem hjd
          have hxf : x.1 < ns := by rw [HNS.out]; exact HOK.out.fits x (by rw [hx]; exact List.getElem_mem hjd)
          obtain ⟨gd, rfl, hgd, d0, d1⟩ := H1.out.elem HK2.out hxj
          have HE : Hid (setAll S1.safe (S1.dirty.take (j + 1)) = (setAll S1.safe (S1.dirty.take j)).set x.1 x.2) := Lib.hid (by rw [take_snoc hxj, setAll_snoc])
          obtain ⟨xa, xs⟩ := x
          have hxaI : (xa : Int) < (ns : Int) := by simpa using hxf
          clear hx hxj
          simp only at d0 d1 hxf HE
          go_upto_region 6 with fail
          obtain ⟨W, hW⟩ : ∃ W, W = wr.alloc (.cells #[.int .i64 (xa : Int), .string xs] 90) := ⟨_, rfl⟩
          have kW : Keep [] wr W := by rw [hW]; exact (Keep.refl _ _).alloc _
          have bW : Blk W wr.heap.size 90 #[.int .i64 (xa : Int), .string xs] := by rw [hW]; exact Blk.new wr _ _
          have e0 := bW.cell 0
          have e1 := bW.cell 1
          have g1 := (show Blk W g 75 _ from (kW.block g hgr (by simp)).trans HB.out).cell 1
          have q0 := row_cell (row_keep HR.out kW (by simp)) (i := xa) (u := .string ((setAll S1.safe (S1.dirty.take j)).getD xa .empty)) (by
            rw [List.getElem?_map, List.getD_eq_getElem?_getD, List.getElem?_eq_getElem (by rw [setAll_length, ← HNS.out]; exact hxf)]; rfl)
          have q1 := row_frozen (row_keep HR.out kW (by simp)) xa
          simp at e0 e1 g1
          rw [← HNS.out] at g1
          obtain ⟨X, hX⟩ : ∃ X, X = (setAll S1.safe (S1.dirty.take j)).getD xa .empty := ⟨_, rfl⟩
          rw [← hX] at q0
          have HKW := Lib.hid kW
          rw [← hW]
          clear hW kW bW d0 d1 hX
          go_still_tail 9, (by kernel_rfl)
          change wpList _ _ _ _ _ W.drew
          go_wp2_with fail
          go_roundw
          case rel =>
            refine ⟨j + 1, by omega, by go_num, ?_, ?_⟩
            · exact ((HK.out.trans HKW.out (by simp)).drew).put (.inl (by simp)) _ _
            · rw [HE.out, List.map_set]
              exact row_kept (row_put (row_keep HR.out HKW.out (by simp)) (i := xa) (.string xs)) (fun _ _ => rfl)
          case measure => simp [intOf]; omega
        · obtain rfl : j = n := by omega
          have hTn : S1.dirty.take j = S1.dirty := List.take_of_length_le (by rw [← HDN.out]; exact Nat.le_refl _)
          rw [hTn, HNS.out] at HR
          have HD := Lib.hid (flush_is H1.out HK.out HR.out)
          have c2' := HB.out.cell 2
          have f2' := HB.out.frozen 2
          simp at c2'
          clear hTn hlt hj HB
          go_wp2_with fail
          go_ret
          have hkk : Keep (g :: gn :: gs :: ((Value.slice p j cap).ownBlock.toList ++ vk.ownBlock.toList)) w1 (wr.setCell ⟨g, 2, none⟩ (.slice none 0 0)) := (HK.out.mono (by simp)).put (.inl (by simp)) _ _
          refine ⟨rfl, turns_comp (by rw [HDN.out]; exact HO1.out) HK1.out ⟨_, ⟨gn, gs, cn, cs, _, vk, rfl, HD.out⟩, fun b hb => ?_, hkk⟩⟩
          simp only [List.mem_cons, List.mem_append] at hb ⊢
          rcases hb with hb | hb | hb | hb | hb
          · exact .inl (.inl hb)
          · exact .inl (.inr (.inl hb))
          · exact .inl (.inr (.inr (.inl hb)))
          · simp [Value.ownBlock] at hb
          · exact .inl (.inr (.inr (.inr (.inr hb))))
  · have R1 : S.errF = 14 := by unfold DS.errF; rw [if_neg hon]
    have R2 : S.flush = S := by unfold DS.flush; rw [if_neg hon]
    rw [R1, R2]
    rw [show S.on = false by simpa using hon] at HON
    clear R1 R2 h hok hlb hon
    go_enter Tryz.func74, Tryz.ntmps74
    go_wp2_with (go_at_call 25; refine HON.out.mono ?_; rintro e w1 ⟨rfl, rfl⟩)
    go_ret
    exact ⟨rfl, Turns.refl H.out⟩
structure Wr where
  l : List UInt8
  e : Int
def Wr.lay (s : Wr) (b : List UInt8) : Wr := if s.e = 0 then ⟨s.l ++ b, 0⟩ else s
def Wr.fail (s : Wr) (c : Int) : Wr := if s.e = 0 then ⟨[], c⟩ else s
def lowBytes : Nat → Nat → List UInt8
  | 0, _ => []
  | k + 1, n => n.toUInt8 :: lowBytes k (n / 256)
def fits (k : Nat) (n : Int) : Bool := decide (0 ≤ n) && (n.toNat / 256 ^ k == 0)
def allFit (k : Nat) (l : List Int) : Bool := l.all (fits k)
def allBytes (k : Nat) (l : List Int) : List UInt8 := l.flatMap fun n => lowBytes k n.toNat
def Wr.nums (s : Wr) (k : Nat) (l : List Int) : Wr := if allFit k l = true then s.lay (allBytes k l) else s.fail 1
def textBytes (t : ByteArray) : List UInt8 := lowBytes 2 t.size ++ t.data.toList
def allShort (l : List ByteArray) : Bool := l.all fun t => decide (t.size ≤ 65535)
def Wr.texts (s : Wr) (l : List ByteArray) : Wr := if allShort l = true then s.lay (l.flatMap textBytes) else s.fail 2
def Wr.raws (s : Wr) (l : List ByteArray) : Wr := s.lay (l.flatMap fun t => t.data.toList)
def Wr.pad (s : Wr) (n : Int) : Wr :=
  if n < 0 ∨ 65536 < n then s.fail 1
  else if n < (s.l.length : Int) then s.fail 2
  else s.lay (List.replicate (n.toNat - s.l.length) 0)
def Wr.ok (s : Wr) : Prop := s.e ≠ 0 → s.l = []
theorem lowBytes_length (k n : Nat) : (lowBytes k n).length = k := by
  induction k generalizing n with
  | zero => rfl
  | succ k ih => simp [lowBytes, ih]
theorem low_lowBytes (k n : Nat) : low (lowBytes k n) = n % 256 ^ k := by
  induction k generalizing n with
  | zero => simp [lowBytes, low, Nat.mod_one]
  | succ k ih =>
    have h : (n.toUInt8).toNat = n % 256 := by simp [Nat.toUInt8]
    simp only [lowBytes, low, ih, h, Nat.pow_succ]
    rw [Nat.mul_comm (256 ^ k) 256, Nat.mod_mul]
theorem lowBytes_snoc (k n : Nat) : lowBytes (k + 1) n = lowBytes k n ++ [(n / 256 ^ k).toUInt8] := by
  induction k generalizing n with
  | zero => simp [lowBytes]
  | succ k ih =>
    rw [lowBytes, ih, lowBytes, Nat.div_div_eq_div_mul, Nat.pow_succ, Nat.mul_comm 256]
    rfl
theorem allBytes_length (k : Nat) (l : List Int) : (allBytes k l).length = l.length * k := by
  unfold allBytes
  induction l with
  | nil => simp
  | cons x l ih => simp only [List.flatMap_cons, List.length_append, ih, lowBytes_length, List.length_cons, Nat.add_mul]; omega
theorem fits_iff (k : Nat) (n : Int) : fits k n = true ↔ 0 ≤ n ∧ n < 256 ^ k := by
  unfold fits
  simp
  intro h
  have : 0 < 256 ^ k := Nat.pow_pos (by omega)
  have e : ((256 ^ k : Nat) : Int) = 256 ^ k := by simp
  omega
theorem pow_bytes (x : Int) (k : Nat) (h : 0 ≤ x) : x / 2 ^ (8 * k) = ((x.toNat / 256 ^ k : Nat) : Int) := by
  obtain ⟨n, rfl⟩ := Int.eq_ofNat_of_zero_le h
  have e : (256 : Nat) ^ k = 2 ^ (8 * k) := by rw [Nat.pow_mul]
  rw [Int.toNat_natCast, e]
  simp
theorem shr_fits (x : Int) (k : Nat) (h : 0 ≤ x) : (x / 2 ^ (8 * k) != 0) = !fits k x := by
  rw [pow_bytes x k h]
  unfold fits
  generalize x.toNat / 256 ^ k = y
  rw [decide_eq_true h, Bool.true_and]
  rw [Bool.eq_iff_iff]
  cases y with
  | zero => simp
  | succ y => simp; omega
theorem allFit_snoc (k : Nat) (l : List Int) (x : Int) : allFit k (l ++ [x]) = (allFit k l && fits k x) := by simp [allFit]
theorem allFit_no {k : Nat} {l : List Int} {x : Int} (h : x ∈ l) (hx : fits k x = false) : allFit k l = false := by
  unfold allFit
  rw [List.all_eq_false]
  exact ⟨x, h, by simp [hx]⟩
theorem Wr.ok_fail {s : Wr} (h : s.ok) (c : Int) : (s.fail c).ok := by
  unfold Wr.fail; split
  · intro _; rfl
  · exact h
def Chain (w : World) (o : Nat) : Option Addr → List (Nat × ByteArray) → Prop
  | p, [] => p = none
  | p, (q, s) :: r => p = some ⟨q, 0, none⟩ ∧ q ≠ o ∧ 0 < s.size ∧ ∃ p', Blk w q 173 #[.pointer p', .string s] ∧ Chain w o p' r
def cat : List (Nat × ByteArray) → List UInt8
  | [] => []
  | (_, s) :: r => cat r ++ s.data.toList
def OutAt (w : World) (o : Nat) (s : Wr) : Prop :=
  ∃ (p : Option Addr) (r : List (Nat × ByteArray)), Blk w o 145 #[.pointer p, .int .i64 s.l.length, .int .i64 s.e] ∧ Chain w o p r ∧ cat r = s.l
theorem Chain.grown {w w' : World} {o : Nat} (hg : w.grownBy w' (some o)) : ∀ {r : List (Nat × ByteArray)} {p : Option Addr}, Chain w o p r → Chain w' o p r
  | [], _, h => h
  | (q, s) :: r, p, ⟨h1, h2, h3, p', h4, h5⟩ => ⟨h1, h2, h3, p', h4.grown hg (by simpa using h2), Chain.grown hg h5⟩
theorem OutAt.lt {w : World} {o : Nat} {s : Wr} (h : OutAt w o s) : o < w.heap.size := by
  obtain ⟨_, _, h, _⟩ := h
  exact h.lt
theorem OutAt.below {w w' : World} {o : Nat} {s : Wr} (h : OutAt w o s) (hb : Below w.heap.size w w') : OutAt w' o s := by
  obtain ⟨p, r, h1, h2, h3⟩ := h
  exact ⟨p, r, h1.below hb h1.lt, h2.grown (by_below hb (Nat.le_refl _)), h3⟩
theorem OutAt.new (w : World) : OutAt (w.alloc (.cells #[.pointer none, .int .i64 0, .int .i64 0] 145)) w.heap.size ⟨[], 0⟩ :=
  ⟨none, [], Blk.new _ _ _, rfl, rfl⟩
set_option maxHeartbeats 400000 in
theorem fail_any (o : Nat) (s : Wr) (c : Int) (w : World) (h : OutAt w o s) :
    Calls Tryz.prog 151 #[.pointer (some ⟨o, 0, none⟩), .int .i64 c] w fun e w' => e = .returned (.pointer (some ⟨o, 0, none⟩)) ∧ OutAt w' o (s.fail c) ∧ w.grownBy w' (some o) := by
  have H := Lib.hid h
  obtain ⟨p, r, h1, h2, h3⟩ := h
  have c0 := h1.cell 0
  have c1 := h1.cell 1
  have c2 := h1.cell 2
  have f0 := h1.frozen 0
  have f1 := h1.frozen 1
  have f2 := h1.frozen 2
  have hl := h1.lt
  simp at c0 c1 c2
  have H1 := Lib.hid h1
  clear h1 h2 h3
  by_cases he : s.e = 0
  · have R : s.fail c = ⟨[], c⟩ := by unfold Wr.fail; rw [if_pos he]
    rw [R]
    clear R
    rw [he] at c2
    clear he
    go_enter Tryz.func151, Tryz.ntmps151
    go_wp2
    go_ret
    exact ⟨rfl, ⟨none, [], ((H1.out.put 0 _).put 1 _).put 2 _, rfl, rfl⟩, by_put (by_put (by_put (by_refl _ _) _ _) _ _) _ _⟩
  · have R : s.fail c = s := by unfold Wr.fail; rw [if_neg he]
    rw [R]
    clear R
    have hc : (s.e == 0) = false := beq_eq_false_iff_ne.2 he
    go_enter Tryz.func151, Tryz.ntmps151
    go_wp2
    go_ret
    exact ⟨rfl, H.out, by_refl _ _⟩
set_option maxHeartbeats 400000 in
theorem lay_any (o : Nat) (s : Wr) (b : ByteArray) (w : World) (h : OutAt w o s) (hn : s.l.length + b.size ≤ 9223372036854775807) :
    Calls Tryz.prog 123 #[.pointer (some ⟨o, 0, none⟩), .string b] w fun e w' => e = .returned (.pointer (some ⟨o, 0, none⟩)) ∧ OutAt w' o (s.lay b.data.toList) ∧ w.grownBy w' (some o) := by
  have H := Lib.hid h
  obtain ⟨p, r, h1, h2, h3⟩ := h
  have c0 := h1.cell 0
  have c1 := h1.cell 1
  have c2 := h1.cell 2
  have f0 := h1.frozen 0
  have f1 := h1.frozen 1
  have f2 := h1.frozen 2
  have hl := h1.lt
  simp at c0 c1 c2
  have H1 := Lib.hid h1
  have H2 := Lib.hid h2
  have H3 := Lib.hid h3
  clear h1 h2 h3
  by_cases he : s.e = 0
  · by_cases hb : b.size = 0
    · have hbl : b = .empty := by
        apply ByteArray.ext
        exact Array.eq_empty_of_size_eq_zero hb
      subst hbl
      have R : s.lay ByteArray.empty.data.toList = s := by unfold Wr.lay; rw [if_pos he]; cases s; simp at he ⊢; exact he.symm
      rw [R]
      clear R
      go_enter Tryz.func123, Tryz.ntmps123
      go_wp2
      go_ret
      exact ⟨rfl, H.out, by_refl _ _⟩
    · have R : s.lay b.data.toList = ⟨s.l ++ b.data.toList, 0⟩ := by unfold Wr.lay; rw [if_pos he]
      rw [R]
      clear R
      rw [he] at c2
      have HE := Lib.hid he
      clear he
      have hne : b.toList.isEmpty = false := by
        rw [Lib.toList_data]
        cases hl : b.data.toList with
        | nil => exact absurd (by rw [Lib.size_eq, hl]; rfl) hb
        | cons _ _ => rfl
      have hpos : 0 < b.size := by omega
      clear hb
      go_enter Tryz.func123, Tryz.ntmps123
      go_wp2
      go_ret
      have k1 := ((H1.out.put 0 (.pointer (some ⟨w.heap.size, 0, none⟩))).put 1 (.int .i64 (s.l.length + b.size))).alloc (.cells #[.pointer p, .string b] 173)
      have k2 := by_alloc (by_put (by_put (by_refl w (some o)) 0 (.pointer (some ⟨w.heap.size, 0, none⟩))) 1 (.int .i64 (s.l.length + b.size))) (.cells #[.pointer p, .string b] 173)
      refine ⟨rfl, ⟨some ⟨w.heap.size, 0, none⟩, (w.heap.size, b) :: r, ?_, ⟨rfl, by omega, hpos, p, ?_, H2.out.grown k2⟩, by rw [cat, H3.out]⟩, k2⟩
      · have e : (((s.l ++ b.data.toList).length : Nat) : Int) = s.l.length + b.size := by rw [List.length_append, ← Lib.size_eq]; simp
        rw [show (Wr.mk (s.l ++ b.data.toList) 0).l = s.l ++ b.data.toList from rfl, e]
        rw [HE.out] at k1
        exact k1
      · have := Blk.new ((w.setCell ⟨o, 0, none⟩ (.pointer (some ⟨w.heap.size, 0, none⟩))).setCell ⟨o, 1, none⟩ (.int .i64 (s.l.length + b.size))) 173 #[.pointer p, .string b]
        simpa using this
  · have R : s.lay b.data.toList = s := by unfold Wr.lay; rw [if_neg he]
    rw [R]
    clear R
    have hc : (s.e != 0) = true := by rw [bne_iff_ne]; exact he
    go_enter Tryz.func123, Tryz.ntmps123
    go_wp2
    go_ret
    exact ⟨rfl, H.out, by_refl _ _⟩
set_option maxRecDepth 100000 in
set_option maxHeartbeats 2000000 in
theorem raws_core (q : Option Addr) (A : Option Addr) (c : Nat) (xs : List ByteArray) (w : World) (hx : Txts w w.heap.size A xs) (hlen : xs.length ≤ 140737488351232) (hsum : (cats xs).length ≤ 140737488351232)
    (R : World → Prop)
    (hlay : ∀ w1, Below w.heap.size w w1 → Calls Tryz.prog 123 #[.pointer q, .string ⟨(cats xs).toArray⟩] w1 fun e w' => e = .returned (.pointer q) ∧ R w') :
    Calls Tryz.prog 97 #[.pointer q, .slice A xs.length c] w fun e w' => e = .returned (.pointer q) ∧ R w' := by
  have HX := Lib.hid hx
  have HL := Lib.hid hlay
  have HS := Lib.hid hsum
  clear hx hlay hsum
  obtain ⟨n, hn⟩ : ∃ n, n = xs.length := ⟨_, rfl⟩
  rw [← hn] at hlen ⊢
  have HN := Lib.hid hn
  clear hn
  go_enter Tryz.func97, Tryz.ntmps97
  go_wp2_with fail
  have hb0 : Lib.IsBuilderF 108 5 w.heap.size w.heap.size (Lib.byteCells []) (w.alloc (.cells #[.pointer none, .slice none 0 0] 108)) := Lib.IsBuilderF.of (Lib.fresh_isBuilder _ _ w)
  go_loopw [10] (fun i wr => ∃ j : Nat, j ≤ n ∧ i = .int .i64 j ∧ Lib.IsBuilderF 108 5 w.heap.size w.heap.size (Lib.byteCells (cats (xs.take j))) wr ∧ Below w.heap.size w wr)
    (fun i _ => n - (intOf i).toNat)
  case atStart => exact ⟨0, Nat.zero_le _, rfl, by simpa [cats] using hb0, (Below.refl _ _).alloc (Nat.le_refl _) _⟩
  case round =>
    obtain ⟨j, hj, rfl, hB, hbr⟩ := hrel
    clear hb0
    by_cases hlt : j < n
    · have hxl : j < xs.length := by rw [← HN.out]; exact hlt
      obtain ⟨b, off, hA, hbB, hc⟩ := HX.out (by omega)
      obtain ⟨x, hx⟩ : ∃ x, x = xs[j] := ⟨_, rfl⟩
      have hxj : xs[j]? = some x := by rw [hx]; exact List.getElem?_eq_getElem hxl
      have hcx : wr.cell? ⟨b, off + j, none⟩ = some (.string x) := (hbr.cell (p := ⟨b, off + j, none⟩) hbB).trans (hc j x hxj)
      have hsz := cats_len hxj
      have hsum := HS.out
      have e1 := cats_snoc hxj
      have HB := Lib.hid hB
      have hl1 : (Lib.byteCells (cats (xs.take j))).length + x.size ≤ 140737488355328 := by rw [Lib.byteCells_length]; omega
      have E1 := Lib.hid e1
      have HSZ := Lib.hid hl1
      clear hxj hc hx hsz hsum e1 hB hl1
      subst hA
      go_wp2_with (go_at_call 69; refine (sb_string w.heap.size w.heap.size _ x _ HB.out HSZ.out hbr.size).mono ?_; rintro e w1 ⟨rfl, hB1, hb1, _⟩)
      go_roundw
      case rel => exact ⟨j + 1, by omega, by go_num, .inr (by rw [E1.out]; simpa [Lib.byteCells, Lib.strCells] using hB1), hbr.trans hb1⟩
      case measure => simp [intOf]; omega
    · obtain rfl : j = n := by omega
      have htk : xs.take j = xs := List.take_of_length_le (by rw [← HN.out]; exact Nat.le_refl _)
      rw [htk] at hB
      clear htk
      go_wp2_with (first
        | (go_at_call 71; refine (sb_text w.heap.size w.heap.size (cats xs) _ hB hbr.size).mono ?_; rintro e w1 ⟨rfl, _, hb1, _⟩)
        | (go_at_call 123; refine (HL.out _ (hbr.trans hb1)).mono ?_; rintro e w2 ⟨rfl, hR⟩))
      go_ret
      exact ⟨rfl, hR⟩
end Go.Proofs.YtiagofgcinlnhaaGreatDoor
