/-
  A head as plain data: whether it may be, its bytes, what is read back; the next one's targets. No statement is proved here.
-/
import Derived.Test.YtbaanoomilohhaaGreatDoorBackPure
import Derived.Test.YtbaanoomilohhaaGreatDoorCrcPure
namespace Go.Proofs.YtbaanoomilohhaaGreatDoor

structure HD where
  seq : Int
  full : Bool
  ts : List Int
/-- Sectors that rise strictly, none below 'least'. -/
def riseB : Int → List Int → Bool
  | _, [] => true
  | least, x :: r => decide (least ≤ x) && decide (x < 2000) && riseB (x + 1) r
def HD.validB (h : HD) : Bool := decide (0 ≤ h.seq ∧ h.seq ≤ 1099511627776) && (if h.full then decide (1 ≤ h.ts.length ∧ h.ts.length ≤ 110) && riseB 0 h.ts else decide (h.ts.length = 0))
def bitN (b : Bool) : Nat := if b then 1 else 0
def HD.bytes (h : HD) : List UInt8 := lowBytes 1 7 ++ (lowBytes 1 (bitN h.full) ++ (lowBytes 8 h.seq.toNat ++ (lowBytes 2 h.ts.length ++ allBytes 2 h.ts)))
def HD.text (h : HD) : List UInt8 := body 256 h.bytes ++ lowBytes 4 (crc (body 256 h.bytes))

theorem riseB_range : ∀ (l : List Int) (least : Int), 0 ≤ least → riseB least l = true → ∀ x ∈ l, 0 ≤ x ∧ x < 2000
  | [], _, _, _, x, hx => by cases hx
  | y :: r, least, h0, h, x, hx => by
    simp only [riseB, Bool.and_eq_true, decide_eq_true_eq] at h
    rcases List.mem_cons.1 hx with rfl | hx
    · exact ⟨by omega, h.1.2⟩
    · exact riseB_range r (y + 1) (by omega) h.2 x hx
structure HD.Valid (h : HD) : Prop where
  seq : 0 ≤ h.seq ∧ h.seq ≤ 1099511627776
  few : h.ts.length ≤ 110
  range : ∀ x ∈ h.ts, 0 ≤ x ∧ x < 2000
theorem HD.valid_of {h : HD} (hv : h.validB = true) : h.Valid := by
  unfold HD.validB at hv
  rw [Bool.and_eq_true, decide_eq_true_eq] at hv
  obtain ⟨h1, h2⟩ := hv
  split at h2
  · rw [Bool.and_eq_true, decide_eq_true_eq] at h2
    exact ⟨h1, h2.1.2, riseB_range _ 0 (by omega) h2.2⟩
  · have h2 := of_decide_eq_true h2
    have : h.ts = [] := List.eq_nil_of_length_eq_zero h2
    exact ⟨h1, by omega, by rw [this]; simp⟩
theorem HD.len (h : HD) : h.bytes.length = 12 + h.ts.length * 2 := by
  unfold HD.bytes
  simp only [List.length_append, lowBytes_length, allBytes_length]
  omega
theorem bitN_lt (b : Bool) : bitN b < 256 := by cases b <;> decide
theorem HD.Valid.small {h : HD} (hv : h.Valid) : (h.bytes.length : Int) ≤ 256 - 4 := by rw [h.len]; have := hv.few; omega
theorem HD.Valid.body_len {h : HD} (hv : h.Valid) : (body 256 h.bytes).length = 252 := by have := body_length hv.small; omega
theorem HD.Valid.text_len {h : HD} (hv : h.Valid) : h.text.length = 256 := by
  unfold HD.text
  rw [List.length_append, hv.body_len, lowBytes_length]
theorem HD.Valid.sealed {h : HD} (hv : h.Valid) : sealB 256 h.bytes = (h.text, 0) := sealB_ok (by omega) (by omega) hv.small
theorem HD.opened (h : HD) : openB h.text = (body 256 h.bytes, 0) := openB_back _
theorem HD.Valid.fit {h : HD} (hv : h.Valid) : allFit 2 h.ts = true := by
  unfold allFit
  rw [List.all_eq_true]
  intro x hx
  have := hv.range x hx
  exact (fits_iff 2 x).2 ⟨this.1, by omega⟩
theorem HD.text_first (h : HD) : ∃ r, h.text = 7 :: r := ⟨_, rfl⟩

/-- The writer behind each call. -/
def headSt (h : HD) : Nat → Wr
  | 0 | 1 => ⟨[], 0⟩
  | 2 => Wr.nums ⟨[], 0⟩ 1 [7, (bitN h.full : Int)]
  | 3 => (Wr.nums ⟨[], 0⟩ 1 [7, (bitN h.full : Int)]).nums 8 [h.seq]
  | 4 => ((Wr.nums ⟨[], 0⟩ 1 [7, (bitN h.full : Int)]).nums 8 [h.seq]).nums 2 [(h.ts.length : Int)]
  | _ => (((Wr.nums ⟨[], 0⟩ 1 [7, (bitN h.full : Int)]).nums 8 [h.seq]).nums 2 [(h.ts.length : Int)]).nums 2 h.ts
theorem headSt_two (h : HD) : headSt h 2 = ⟨lowBytes 1 7 ++ lowBytes 1 (bitN h.full), 0⟩ := by
  show Wr.nums ⟨[], 0⟩ 1 [((7 : Nat) : Int), (bitN h.full : Int)] = _
  rw [nums_ok _ _ _ (fit_two (by omega) (by have := bitN_lt h.full; omega)), all_two, List.nil_append]
theorem headSt_three {h : HD} (hv : h.Valid) : headSt h 3 = ⟨lowBytes 1 7 ++ lowBytes 1 (bitN h.full) ++ lowBytes 8 h.seq.toNat, 0⟩ := by
  obtain ⟨n, hn⟩ : ∃ n : Nat, h.seq = (n : Int) := ⟨h.seq.toNat, by have := hv.seq; omega⟩
  show Wr.nums (headSt h 2) 8 [h.seq] = _
  have hb : n < 256 ^ 8 := by have := hv.seq; omega
  rw [headSt_two, hn, nums_ok _ _ _ (fit_one hb), all_one, Int.toNat_natCast]
theorem headSt_four {h : HD} (hv : h.Valid) : headSt h 4 = ⟨lowBytes 1 7 ++ lowBytes 1 (bitN h.full) ++ lowBytes 8 h.seq.toNat ++ lowBytes 2 h.ts.length, 0⟩ := by
  show Wr.nums (headSt h 3) 2 [(h.ts.length : Int)] = _
  rw [headSt_three hv, nums_ok _ _ _ (fit_one (by have := hv.few; omega)), all_one]
theorem headSt_five {h : HD} (hv : h.Valid) : headSt h 5 = ⟨h.bytes, 0⟩ := by
  show Wr.nums (headSt h 4) 2 h.ts = _
  rw [headSt_four hv, nums_ok _ _ _ hv.fit]
  unfold HD.bytes
  simp only [List.append_assoc]

/-- What is read of the body. -/
theorem body_eq (h : HD) : ∃ z, body 256 h.bytes = lowBytes 1 7 ++ (lowBytes 1 (bitN h.full) ++ (lowBytes 8 h.seq.toNat ++ (lowBytes 2 h.ts.length ++ (allBytes 2 h.ts ++ z)))) := by
  refine ⟨List.replicate ((256 - 4 : Int).toNat - h.bytes.length) 0, ?_⟩
  unfold body
  generalize List.replicate ((256 - 4 : Int).toNat - h.bytes.length) (0 : UInt8) = z
  rw [HD.bytes]
  simp only [List.append_assoc]
theorem allBytes_cons (k : Nat) (x : Int) (r : List Int) : allBytes k (x :: r) = lowBytes k x.toNat ++ allBytes k r := by simp [allBytes]

/-- Alike ones beside each other, once. -/
theorem riseB_mono : ∀ (l : List Int) (a b : Int), a ≤ b → riseB b l = true → riseB a l = true
  | [], _, _, _, _ => rfl
  | x :: r, a, b, hab, h => by
    simp only [riseB, Bool.and_eq_true, decide_eq_true_eq] at h ⊢
    exact ⟨⟨by omega, h.1.2⟩, h.2⟩
theorem riseB_snoc : ∀ (l : List Int) (least x : Int), riseB least l = true → (∀ y ∈ l, y < x) → least ≤ x → x < 2000 → riseB least (l ++ [x]) = true
  | [], least, x, _, _, h1, h2 => by simp [riseB, h1, h2]
  | y :: r, least, x, h, hy, h1, h2 => by
    simp only [riseB, Bool.and_eq_true, decide_eq_true_eq, List.cons_append] at h ⊢
    exact ⟨h.1, riseB_snoc r (y + 1) x h.2 (fun z hz => hy z (by simp [hz])) (by have := hy y (by simp); omega) h2⟩
end Go.Proofs.YtbaanoomilohhaaGreatDoor
