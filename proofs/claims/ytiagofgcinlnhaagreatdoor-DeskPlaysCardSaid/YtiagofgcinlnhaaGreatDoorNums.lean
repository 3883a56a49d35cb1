/-
  The writer's numbers, in so many bytes each.
-/
import Derived.Test.YtiagofgcinlnhaaGreatDoorTexts
import Derived.Laws.BitsAllLaws
import Derived.Test.YtiagofgcinlnhaaGreatDoorRegionApp
import Derived.Deep.AppendLies
import Derived.Maps.AppendAt
namespace Go.Proofs.YtiagofgcinlnhaaGreatDoor
def bs (l : List UInt8) : ByteArray := ⟨l.toArray⟩
theorem bs_list (l : List UInt8) : (bs l).data.toList = l := by simp [bs]
theorem bs_size (l : List UInt8) : (bs l).size = l.length := by rw [Lib.size_eq, bs_list]
theorem list_bs (s : ByteArray) : bs s.data.toList = s := by
  apply ByteArray.ext
  simp [bs]
theorem bs_extract (l : List UInt8) (i j : Nat) : (bs l).extract i j = bs ((l.drop i).take (j - i)) := by
  have h := Lib.extract_eq (bs l) i j
  rw [bs_list] at h
  exact h
theorem take_bs (l r : List UInt8) (n : Nat) (hn : l.length = n) : (Rd.mk (bs (l ++ r)) 0).take n = (bs l, true, ⟨bs r, 0⟩) := by
  unfold Rd.take
  simp only [bs_size, List.length_append]
  rw [if_neg (by simp), if_neg (by omega), if_neg (by omega)]
  subst hn
  have e1 : (bs (l ++ r)).extract 0 l.length = bs l := by rw [bs_extract]; simp
  have e2 : (bs (l ++ r)).extract l.length (l.length + r.length) = bs r := by rw [bs_extract]; simp
  rw [Int.toNat_natCast, e1, e2]
theorem num_bs (k n : Nat) (r : List UInt8) (h : n < 256 ^ k) (h1 : n ≤ 9223372036854775807) : (Rd.mk (bs (lowBytes k n ++ r)) 0).num k = ((n : Int), (⟨bs r, 0⟩ : Rd)) := by
  unfold Rd.num
  rw [take_bs _ _ _ (lowBytes_length k n)]
  simp only [bs_list, low_lowBytes, Nat.mod_eq_of_lt h]
  rw [if_pos trivial, if_neg (by omega)]
theorem nums_ok (l : List UInt8) (k : Nat) (xs : List Int) (h : allFit k xs = true) : (Wr.mk l 0).nums k xs = ⟨l ++ allBytes k xs, 0⟩ := by
  unfold Wr.nums
  rw [if_pos h]
  rfl
theorem all_one (k : Nat) (n : Nat) : allBytes k [(n : Int)] = lowBytes k n := by simp [allBytes]
theorem all_two (k : Nat) (n m : Nat) : allBytes k [(n : Int), (m : Int)] = lowBytes k n ++ lowBytes k m := by simp [allBytes]
theorem fit_one {k n : Nat} (h : n < 256 ^ k) : allFit k [(n : Int)] = true := by
  simp only [allFit, List.all_cons, List.all_nil, Bool.and_true]
  rw [fits_iff]
  have : ((256 ^ k : Nat) : Int) = 256 ^ k := by simp
  omega
theorem fit_two {k n m : Nat} (h : n < 256 ^ k) (h' : m < 256 ^ k) : allFit k [(n : Int), (m : Int)] = true := by
  have h1 := fit_one h
  have h2 := fit_one h'
  simp only [allFit, List.all_cons, List.all_nil, Bool.and_true] at h1 h2 ⊢
  rw [h1, h2]
  rfl
def shift1 (x : Nat) : Nat := if x % 2 = 1 then (x / 2) ^^^ 3988292384 else x / 2
def shifts : Nat → Nat → Nat
  | 0, x => x
  | k + 1, x => shift1 (shifts k x)
def crcByte (x : Nat) (b : UInt8) : Nat := shifts 8 (x ^^^ b.toNat)
def crcFold (x : Nat) (l : List UInt8) : Nat := l.foldl crcByte x
def crc (l : List UInt8) : Nat := crcFold 4294967295 l ^^^ 4294967295
theorem cxor_lt {a b : Nat} (ha : a < 4294967296) (hb : b < 4294967296) : a ^^^ b < 4294967296 := Nat.xor_lt_two_pow (n := 32) ha hb
theorem shift1_lt {x : Nat} (h : x < 4294967296) : shift1 x < 4294967296 := by
  unfold shift1
  split
  · exact cxor_lt (by omega) (by omega)
  · omega
theorem shifts_lt (k : Nat) {x : Nat} (h : x < 4294967296) : shifts k x < 4294967296 := by
  induction k with
  | zero => exact h
  | succ k ih => exact shift1_lt ih
theorem byte_xor_lt {x : Nat} (b : UInt8) (h : x < 4294967296) : x ^^^ b.toNat < 4294967296 := cxor_lt h (by have := b.toNat_lt; omega)
theorem crcByte_lt {x : Nat} (b : UInt8) (h : x < 4294967296) : crcByte x b < 4294967296 := shifts_lt 8 (byte_xor_lt b h)
theorem crcFold_lt (l : List UInt8) : ∀ {x : Nat}, x < 4294967296 → crcFold x l < 4294967296 := by
  induction l with
  | nil => intro x h; exact h
  | cons b l ih => intro x h; exact ih (crcByte_lt b h)
theorem crc_lt (l : List UInt8) : crc l < 4294967296 := cxor_lt (crcFold_lt l (by omega)) (by omega)
theorem crcFold_append (x : Nat) (l m : List UInt8) : crcFold x (l ++ m) = crcFold (crcFold x l) m := List.foldl_append
theorem crcFold_snoc (x : Nat) (l : List UInt8) (b : UInt8) : crcFold x (l ++ [b]) = crcByte (crcFold x l) b := by rw [crcFold_append]; rfl
theorem lowBytes_low (l : List UInt8) : lowBytes l.length (low l) = l := by
  induction l with
  | nil => rfl
  | cons x l ih =>
    have hx := x.toNat_lt
    simp only [List.length_cons, lowBytes, low]
    have e1 : (x.toNat + 256 * low l) / 256 = low l := by omega
    have e2 : (x.toNat + 256 * low l).toUInt8 = x := by
      apply UInt8.toNat_inj.1
      simp [Nat.toUInt8]
    rw [e1, e2, ih]
theorem low_four {n : Nat} (h : n < 4294967296) : low (lowBytes 4 n) = n := by
  rw [low_lowBytes]
  exact Nat.mod_eq_of_lt h
def body (n : Int) (l : List UInt8) : List UInt8 := l ++ List.replicate ((n - 4).toNat - l.length) 0
def sealB (n : Int) (l : List UInt8) : List UInt8 × Int :=
  if n < 4 ∨ 65536 < n then ([], 1)
  else if n - 4 < (l.length : Int) then ([], 2)
  else (body n l ++ lowBytes 4 (crc (body n l)), 0)
def openB (l : List UInt8) : List UInt8 × Int :=
  if l.length < 4 then ([], 5)
  else if low (l.drop (l.length - 4)) = crc (l.take (l.length - 4)) then (l.take (l.length - 4), 0)
  else ([], 7)
theorem sealB_arg {n : Int} {l : List UInt8} (h : n < 4 ∨ 65536 < n) : sealB n l = ([], 1) := by unfold sealB; rw [if_pos h]
theorem sealB_long {n : Int} {l : List UInt8} (h0 : 4 ≤ n) (h1 : n ≤ 65536) (h : n - 4 < (l.length : Int)) : sealB n l = ([], 2) := by
  unfold sealB; rw [if_neg (by omega), if_pos h]
theorem sealB_ok {n : Int} {l : List UInt8} (h0 : 4 ≤ n) (h1 : n ≤ 65536) (h : (l.length : Int) ≤ n - 4) : sealB n l = (body n l ++ lowBytes 4 (crc (body n l)), 0) := by
  unfold sealB; rw [if_neg (by omega), if_neg (by omega)]
theorem body_length {n : Int} {l : List UInt8} (h : (l.length : Int) ≤ n - 4) : ((body n l).length : Int) = n - 4 := by
  unfold body
  rw [List.length_append, List.length_replicate]
  omega
theorem openB_back (b : List UInt8) : openB (b ++ lowBytes 4 (crc b)) = (b, 0) := by
  have hl : (b ++ lowBytes 4 (crc b)).length - 4 = b.length := by rw [List.length_append, lowBytes_length]; omega
  unfold openB
  rw [if_neg (by rw [List.length_append, lowBytes_length]; omega), hl, List.drop_left, List.take_left, low_four (crc_lt b), if_pos rfl]
structure HD where
  seq : Int
  full : Bool
  ts : List Int
def riseB : Int → List Int → Bool
  | _, [] => true
  | least, x :: r => decide (least ≤ x) && decide (x < 2000) && riseB (x + 1) r
def HD.validB (h : HD) : Bool := decide (0 ≤ h.seq ∧ h.seq ≤ 1099511627776) && (if h.full then decide (1 ≤ h.ts.length ∧ h.ts.length ≤ 110) && riseB 0 h.ts else decide (h.ts.length = 0))
def bitN (b : Bool) : Nat := if b then 1 else 0
def HD.bytes (h : HD) : List UInt8 := lowBytes 1 7 ++ (lowBytes 1 (bitN h.full) ++ (lowBytes 8 h.seq.toNat ++ (lowBytes 2 h.ts.length ++ allBytes 2 h.ts)))
def HD.text (h : HD) : List UInt8 := body 256 h.bytes ++ lowBytes 4 (crc (body 256 h.bytes))
theorem riseB_range : ∀ (l : List Int) (least : Int), 0 ≤ least → riseB least l = true → ∀ x ∈ l, 0 ≤ x ∧ x < 2000
  | [], _, _, _, x, hx => by cases hx
  | y :: r, least, h0, h, x, hx => by
    simp only [riseB, Bool.and_eq_true, decide_eq_true_eq] at h
    rcases List.mem_cons.1 hx with rfl | hx
    · exact ⟨by omega, h.1.2⟩
    · exact riseB_range r (y + 1) (by omega) h.2 x hx
structure HD.Valid (h : HD) : Prop where
  seq : 0 ≤ h.seq ∧ h.seq ≤ 1099511627776
  few : h.ts.length ≤ 110
  range : ∀ x ∈ h.ts, 0 ≤ x ∧ x < 2000
theorem HD.valid_of {h : HD} (hv : h.validB = true) : h.Valid := by
  unfold HD.validB at hv
  rw [Bool.and_eq_true, decide_eq_true_eq] at hv
  obtain ⟨h1, h2⟩ := hv
  split at h2
  · rw [Bool.and_eq_true, decide_eq_true_eq] at h2
    exact ⟨h1, h2.1.2, riseB_range _ 0 (by omega) h2.2⟩
  · have h2 := of_decide_eq_true h2
    have : h.ts = [] := List.eq_nil_of_length_eq_zero h2
    exact ⟨h1, by omega, by rw [this]; simp⟩
theorem HD.len (h : HD) : h.bytes.length = 12 + h.ts.length * 2 := by
  unfold HD.bytes
  simp only [List.length_append, lowBytes_length, allBytes_length]
  omega
theorem bitN_lt (b : Bool) : bitN b < 256 := by cases b <;> decide
theorem HD.Valid.small {h : HD} (hv : h.Valid) : (h.bytes.length : Int) ≤ 256 - 4 := by rw [h.len]; have := hv.few; omega
theorem HD.Valid.body_len {h : HD} (hv : h.Valid) : (body 256 h.bytes).length = 252 := by have := body_length hv.small; omega
theorem HD.Valid.text_len {h : HD} (hv : h.Valid) : h.text.length = 256 := by
  unfold HD.text
  rw [List.length_append, hv.body_len, lowBytes_length]
theorem HD.Valid.sealed {h : HD} (hv : h.Valid) : sealB 256 h.bytes = (h.text, 0) := sealB_ok (by omega) (by omega) hv.small
theorem HD.opened (h : HD) : openB h.text = (body 256 h.bytes, 0) := openB_back _
theorem HD.Valid.fit {h : HD} (hv : h.Valid) : allFit 2 h.ts = true := by
  unfold allFit
  rw [List.all_eq_true]
  intro x hx
  have := hv.range x hx
  exact (fits_iff 2 x).2 ⟨this.1, by omega⟩
theorem HD.text_first (h : HD) : ∃ r, h.text = 7 :: r := ⟨_, rfl⟩
def headSt (h : HD) : Nat → Wr
  | 0 | 1 => ⟨[], 0⟩
  | 2 => Wr.nums ⟨[], 0⟩ 1 [7, (bitN h.full : Int)]
  | 3 => (Wr.nums ⟨[], 0⟩ 1 [7, (bitN h.full : Int)]).nums 8 [h.seq]
  | 4 => ((Wr.nums ⟨[], 0⟩ 1 [7, (bitN h.full : Int)]).nums 8 [h.seq]).nums 2 [(h.ts.length : Int)]
  | _ => (((Wr.nums ⟨[], 0⟩ 1 [7, (bitN h.full : Int)]).nums 8 [h.seq]).nums 2 [(h.ts.length : Int)]).nums 2 h.ts
theorem headSt_two (h : HD) : headSt h 2 = ⟨lowBytes 1 7 ++ lowBytes 1 (bitN h.full), 0⟩ := by
  show Wr.nums ⟨[], 0⟩ 1 [((7 : Nat) : Int), (bitN h.full : Int)] = _
  rw [nums_ok _ _ _ (fit_two (by omega) (by have := bitN_lt h.full; omega)), all_two, List.nil_append]
theorem headSt_three {h : HD} (hv : h.Valid) : headSt h 3 = ⟨lowBytes 1 7 ++ lowBytes 1 (bitN h.full) ++ lowBytes 8 h.seq.toNat, 0⟩ := by
  obtain ⟨n, hn⟩ : ∃ n : Nat, h.seq = (n : Int) := ⟨h.seq.toNat, by have := hv.seq; omega⟩
  show Wr.nums (headSt h 2) 8 [h.seq] = _
  have hb : n < 256 ^ 8 := by have := hv.seq; omega
  rw [headSt_two, hn, nums_ok _ _ _ (fit_one hb), all_one, Int.toNat_natCast]
theorem headSt_four {h : HD} (hv : h.Valid) : headSt h 4 = ⟨lowBytes 1 7 ++ lowBytes 1 (bitN h.full) ++ lowBytes 8 h.seq.toNat ++ lowBytes 2 h.ts.length, 0⟩ := by
  show Wr.nums (headSt h 3) 2 [(h.ts.length : Int)] = _
  rw [headSt_three hv, nums_ok _ _ _ (fit_one (by have := hv.few; omega)), all_one]
theorem headSt_five {h : HD} (hv : h.Valid) : headSt h 5 = ⟨h.bytes, 0⟩ := by
  show Wr.nums (headSt h 4) 2 h.ts = _
  rw [headSt_four hv, nums_ok _ _ _ hv.fit]
  unfold HD.bytes
  simp only [List.append_assoc]
theorem body_eq (h : HD) : ∃ z, body 256 h.bytes = lowBytes 1 7 ++ (lowBytes 1 (bitN h.full) ++ (lowBytes 8 h.seq.toNat ++ (lowBytes 2 h.ts.length ++ (allBytes 2 h.ts ++ z)))) := by
  refine ⟨List.replicate ((256 - 4 : Int).toNat - h.bytes.length) 0, ?_⟩
  unfold body
  generalize List.replicate ((256 - 4 : Int).toNat - h.bytes.length) (0 : UInt8) = z
  rw [HD.bytes]
  simp only [List.append_assoc]
theorem allBytes_cons (k : Nat) (x : Int) (r : List Int) : allBytes k (x :: r) = lowBytes k x.toNat ++ allBytes k r := by simp [allBytes]
theorem riseB_snoc : ∀ (l : List Int) (least x : Int), riseB least l = true → (∀ y ∈ l, y < x) → least ≤ x → x < 2000 → riseB least (l ++ [x]) = true
  | [], least, x, _, _, h1, h2 => by simp [riseB, h1, h2]
  | y :: r, least, x, h, hy, h1, h2 => by
    simp only [riseB, Bool.and_eq_true, decide_eq_true_eq, List.cons_append] at h ⊢
    exact ⟨h.1, riseB_snoc r (y + 1) x h.2 (fun z hz => hy z (by simp [hz])) (by have := hy y (by simp); omega) h2⟩
open Go.RowKit
def Ints (w : World) (B : Nat) (A : Option Addr) (xs : List Int) : Prop :=
  0 < xs.length → ∃ b off, A = some ⟨b, off, none⟩ ∧ b < B ∧ ∀ (j : Nat) (x : Int), xs[j]? = some x → w.cell? ⟨b, off + j, none⟩ = some (.int .i64 x)
theorem Ints.nil (w : World) (B : Nat) (A : Option Addr) : Ints w B A [] := fun h => absurd h (by simp)
theorem Ints.more {w : World} {B B' : Nat} {A : Option Addr} {xs : List Int} (h : Ints w B A xs) (hB : B ≤ B') : Ints w B' A xs := fun hp => by
  obtain ⟨b, off, e, hb, hc⟩ := h hp
  exact ⟨b, off, e, by omega, hc⟩
theorem Ints.keep {w w' : World} {B : Nat} {A : Option Addr} {xs : List Int} (h : Ints w B A xs) (hk : ∀ p : Addr, p.block < B → w'.cell? p = w.cell? p) : Ints w' B A xs := by
  intro hp
  obtain ⟨b, off, e, hb, hc⟩ := h hp
  exact ⟨b, off, e, hb, fun j x hx => (hk _ hb).trans (hc j x hx)⟩
theorem Ints.below {w w' : World} {B : Nat} {A : Option Addr} {xs : List Int} (h : Ints w B A xs) (hb : Below B w w') : Ints w' B A xs := h.keep fun _ hp => hb.cell hp
theorem next_cells (l : List UInt8) (x : Int) (t : Nat) (h : 0 ≤ x) : Lib.byteCells (l ++ lowBytes t x.toNat) ++ [Value.int .u8 (x / 2 ^ (8 * t) % 256)] = Lib.byteCells (l ++ lowBytes (t + 1) x.toNat) := by
  rw [pow_bytes x t h, lowBytes_snoc]
  simp [Lib.byteCells, Nat.toUInt8]
set_option maxRecDepth 100000 in
set_option maxHeartbeats 2000000 in
theorem numbers_core (q : Option Addr) (k : Nat) (hk : k ≤ 8) (A : Option Addr) (c : Nat) (xs : List Int) (w : World) (hx : Ints w w.heap.size A xs) (hlen : xs.length * 8 ≤ 140737488351232) (hr : ∀ x ∈ xs, -9223372036854775808 ≤ x ∧ x ≤ 9223372036854775807)
    (R : Bool → World → Prop)
    (hfail : ∀ w1, Below w.heap.size w w1 → Calls Tryz.prog 151 #[.pointer q, .int .i64 1] w1 fun e w' => e = .returned (.pointer q) ∧ R false w')
    (hlay : ∀ w1, Below w.heap.size w w1 → Calls Tryz.prog 123 #[.pointer q, .string ⟨(allBytes k xs).toArray⟩] w1 fun e w' => e = .returned (.pointer q) ∧ R true w') :
    Calls Tryz.prog 122 #[.pointer q, .int .i64 k, .slice A xs.length c] w fun e w' => e = .returned (.pointer q) ∧ R (allFit k xs) w' := by
  obtain ⟨i0, hi, hz0, hz1, hz2⟩ := info_parts byte_info
  have HX := Lib.hid hx
  have HR := Lib.hid hr
  have HF := Lib.hid hfail
  have HL := Lib.hid hlay
  clear hx hr hfail hlay
  have hm1 : k * xs.length ≤ 8 * xs.length := Nat.mul_le_mul_right _ hk
  obtain ⟨n, hn⟩ : ∃ n, n = xs.length := ⟨_, rfl⟩
  rw [← hn] at hlen hm1 ⊢
  have HN := Lib.hid hn
  clear hn
  obtain ⟨m, hm⟩ : ∃ m, m = k * n := ⟨_, rfl⟩
  rw [← hm] at hm1
  have hmi : (k : Int) * (n : Int) = (m : Int) := by rw [hm]; simp
  have HM := Lib.hid hm
  clear hm
  go_enter Tryz.func122, Tryz.ntmps122
  go_wp2_with (at_make; refine wpList_make_own _ rfl _ _ 81 rfl w.heap.size 5 i0 (.int .u8 0) 1 Tryz.underlying81 hi hz0 hz1 .i64 .i64 _ m rfl rfl rfl (by rw [hz2]; omega) (by unfold maxLen; omega) (Nat.le_refl _) ?_; intro w0 hown0 hgrow0)
  have hb0 : Below w.heap.size w w0 := (Below.refl _ _).grown hgrow0 (Nat.le_refl _) (by simp)
  clear hgrow0
  go_loopw [7, 18] (fun v i wr => ∃ j : Nat, j ≤ n ∧ i = .int .i64 j ∧ v = .slice (some ⟨w.heap.size, 0, none⟩) (j * k) m ∧ allFit k (xs.take j) = true ∧
      wr.ownsRow w.heap.size 5 1 (.slice (some ⟨w.heap.size, 0, none⟩) (j * k) m) (j * k) (Lib.byteCells (allBytes k (xs.take j))) ∧ Below w.heap.size w wr)
    (fun _ i _ => n - (intOf i).toNat)
  case atStart => exact ⟨0, Nat.zero_le _, rfl, by simp, by simp [allFit], by simpa [allBytes, Lib.byteCells] using hown0, hb0⟩
  case round =>
    obtain ⟨j, hj, rfl, rfl, hfit, hown, hbr⟩ := hrel
    have HFIT := Lib.hid hfit
    clear hfit hown0 hb0
    by_cases hlt : j < n
    · have hxl : j < xs.length := by rw [← HN.out]; exact hlt
      obtain ⟨b, off, hA, hbB, hc⟩ := HX.out (by omega)
      obtain ⟨x, hx⟩ : ∃ x, x = xs[j] := ⟨_, rfl⟩
      have hxj : xs[j]? = some x := by rw [hx]; exact List.getElem?_eq_getElem hxl
      have hcx : wr.cell? ⟨b, off + j, none⟩ = some (.int .i64 x) := (hbr.cell (p := ⟨b, off + j, none⟩) hbB).trans (hc j x hxj)
      have hxr := HR.out x (by rw [hx]; exact List.getElem_mem hxl)
      have hmem : x ∈ xs := by rw [hx]; exact List.getElem_mem hxl
      have HXJ := Lib.hid hxj
      clear hxj hc hx
      subst hA
      by_cases h0 : x < 0
      · have hno : allFit k xs = false := allFit_no hmem (by unfold fits; simp; intro _; omega)
        have HNO := Lib.hid hno
        clear hno hmem
        go_wp2_with (go_at_call 151; refine (HF.out _ hbr).mono ?_; rintro e w1 ⟨rfl, hR⟩)
        go_ret
        rw [HNO.out]
        exact ⟨rfl, hR⟩
      · have h0' : 0 ≤ x := by omega
        clear h0
        cases hf : fits k x with
        | false =>
          have hq : (x / 2 ^ (8 * k) != 0) = true := by rw [shr_fits x k h0', hf]; rfl
          have hno : allFit k xs = false := allFit_no hmem hf
          have HNO := Lib.hid hno
          clear hno hmem hf
          go_wp2_with (go_at_call 151; refine (HF.out _ hbr).mono ?_; rintro e w1 ⟨rfl, hR⟩)
          go_ret
          rw [HNO.out]
          exact ⟨rfl, hR⟩
        | true =>
          have hq : (x / 2 ^ (8 * k) != 0) = false := by rw [shr_fits x k h0', hf]; rfl
          have HFX := Lib.hid hf
          clear hmem hf
          go_wp2_with fail
          obtain ⟨wo, rfl⟩ : ∃ wo : World, wo = wr := ⟨_, rfl⟩
          go_loopw [7, 34] (fun v i wi => ∃ t : Nat, t ≤ k ∧ i = .int .i64 t ∧ v = .slice (some ⟨w.heap.size, 0, none⟩) (j * k + t) m ∧
              wi.ownsRow w.heap.size 5 1 (.slice (some ⟨w.heap.size, 0, none⟩) (j * k + t) m) (j * k + t) (Lib.byteCells (allBytes k (xs.take j) ++ lowBytes t x.toNat)) ∧ Below w.heap.size w wi)
            (fun _ i _ => k - (intOf i).toNat)
          case atStart => exact ⟨0, Nat.zero_le _, rfl, rfl, by simpa [lowBytes] using hown, hbr⟩
          case round =>
            obtain ⟨t, ht, rfl, rfl, hown1, hbi⟩ := hrel
            clear hown hbr
            by_cases htl : t < k
            · have hroom : j * k + t + 1 ≤ m := by
                rw [HM.out]
                have : (j + 1) * k ≤ n * k := Nat.mul_le_mul_right _ hlt
                rw [Nat.add_mul, Nat.one_mul] at this
                rw [Nat.mul_comm k n]
                omega
              go_wp2_with (at_builtin; refine wpList_append_fits _ rfl _ _ 81 rfl w.heap.size 5 i0 1 Tryz.underlying81 hi hz1 w.heap.size (j * k + t) m _ rfl (hown1.alloc _) ⟨wr.heap.size, 0, none⟩ 1 1 [.int .u8 (x / 2 ^ (8 * t) % 256)] rfl rfl ?c1 ?c2 hroom ?_)
              case c1 =>
                intro a u ha
                match a, ha with
                | 0, ha => simp at ha; subst ha; simp [Addr.add]
              case c2 => intro u hu; simp at hu; subst hu; rfl
              intro w1 hown2 hgrow2
              have hb2 : Below w.heap.size w w1 := (hbi.alloc hbi.size _).grown hgrow2 (by have := hbi.size; simp; omega) (by simp)
              clear hown1 hbi hgrow2
              go_wp2
              go_roundw
              case rel => exact ⟨t + 1, by omega, by go_num, rfl, by rw [← next_cells _ _ _ h0']; exact hown2, hb2⟩
              case measure => simp [intOf]; omega
            · obtain rfl : t = k := by omega
              have e1 : allBytes t (xs.take (j + 1)) = allBytes t (xs.take j) ++ lowBytes t x.toNat := by
                rw [List.take_add_one, HXJ.out]
                simp [allBytes]
              have e2 : allFit t (xs.take (j + 1)) = true := by
                rw [List.take_add_one, HXJ.out]
                simp only [Option.toList_some]
                rw [allFit_snoc, HFIT.out, HFX.out]
                rfl
              have e3 : (j + 1) * t = j * t + t := by rw [Nat.add_mul, Nat.one_mul]
              have E1 := Lib.hid e1
              have E2 := Lib.hid e2
              have E3 := Lib.hid e3
              clear e1 e2 e3 htl
              go_wp2
              go_roundw
              case rel => exact ⟨j + 1, by omega, by go_num, by rw [E3.out], E2.out, by rw [E1.out, E3.out]; exact hown1, hbi⟩
              case measure => simp [intOf]; omega
    · obtain rfl : j = n := by omega
      have htk : xs.take j = xs := List.take_of_length_le (by rw [← HN.out]; exact Nat.le_refl _)
      have hlb : (allBytes k xs).length = j * k := by rw [allBytes_length, ← HN.out]
      rw [htk] at hown
      have hcv := run_convert_bytes_back (P := Tryz.prog) wr 81 9 5 ⟨w.heap.size, 0, none⟩ m (allBytes k xs) Tryz.underlying81 Tryz.underlying5 Tryz.underlying9
        (fun i hi => hown.cells (g := w.heap.size) rfl i _ (by simp [Lib.byteCells, List.getElem?_eq_getElem hi]))
      rw [hlb] at hcv
      have HFIT2 := Lib.hid (show allFit k xs = true by rw [← HFIT.out, htk])
      clear hown htk hlb
      go_wp2_with (go_at_call 123; refine (HL.out _ hbr).mono ?_; rintro e w1 ⟨rfl, hR⟩)
      go_ret
      rw [HFIT2.out]
      exact ⟨rfl, hR⟩
end Go.Proofs.YtiagofgcinlnhaaGreatDoor
