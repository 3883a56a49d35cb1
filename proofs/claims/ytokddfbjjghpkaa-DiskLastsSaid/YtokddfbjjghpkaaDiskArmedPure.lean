/-
  DiskArmed: the disk at each of its calls. No statement is proved here.
-/
import Derived.Test.YtokddfbjjghpkaaDiskFlush
import Derived.Test.YtokddfbjjghpkaaDiskViews
namespace Go.Proofs.Ytokddfbjjghpkaa
open Go.RowKit

def djL (X : ByteArray) (j : Nat) : List (Nat × ByteArray) := (List.range j).map fun i => (i, X)
theorem djL_succ (X : ByteArray) (j : Nat) : djL X (j + 1) = djL X j ++ [(j, X)] := by unfold djL; rw [List.range_succ, List.map_append]; rfl
theorem djL_len (X : ByteArray) (j : Nat) : (djL X j).length = j := by unfold djL; simp
def z140 (z : ByteArray) : List ByteArray := List.replicate 140 z
theorem z140_len (z : ByteArray) : (z140 z).length = 140 := by unfold z140; exact List.length_replicate
def kD (z X : ByteArray) (keep : List Int) (d : Nat) : List ByteArray := keptL keep 0 (djL X d) (z140 z)
theorem kD_len (z X : ByteArray) (keep : List Int) (d : Nat) : (kD z X keep d).length = 140 := by unfold kD; rw [keptL_length, z140_len]
theorem kD_get (z X : ByteArray) (keep : List Int) (d : Nat) {i : Nat} (hi : i < 140) : (kD z X keep d)[i]? = some (if i < d ∧ oddI (keep.getD i 0) = true then X else z) := by
  induction d with
  | zero =>
    rw [if_neg (by omega)]
    show (z140 z)[i]? = _
    unfold z140
    rw [List.getElem?_replicate, if_pos hi]
  | succ d ih =>
    have e : kD z X keep (d + 1) = if oddI (keep.getD d 0) then (kD z X keep d).set d X else kD z X keep d := by
      unfold kD
      rw [djL_succ, keptL_snoc, djL_len, Nat.zero_add]
    rw [e]
    by_cases hid : i = d
    · subst hid
      split
      · rename_i ho
        rw [List.getElem?_set_self (by rw [kD_len]; exact hi), if_pos ⟨by omega, ho⟩]
      · rename_i ho
        rw [ih, if_neg (by omega), if_neg (fun h => ho h.2)]
    · have h1 : (if oddI (keep.getD d 0) = true then (kD z X keep d).set d X else kD z X keep d)[i]? = (kD z X keep d)[i]? := by
        split
        · rw [List.getElem?_set_ne (fun e => hid e.symm)]
        · rfl
      rw [h1, ih]
      congr 1
      by_cases hlt : i < d
      · have : i < d + 1 := by omega
        simp [hlt, this]
      · have : ¬ i < d + 1 := by omega
        simp [hlt, this]

/-- Without power, behind a crash at which d writes were not safe. -/
def offD (z X : ByteArray) (keep : List Int) (d : Nat) : DS := { now := kD z X keep d, safe := kD z X keep d, dirty := [], on := false, writes := d, armed := false, left := 0, keep := [] }
/-- Behind j writes, armed for n. -/
def arS (z X : ByteArray) (keep : List Int) (n j : Nat) : DS :=
  if j ≤ n then { now := setAll (z140 z) (djL X j), safe := z140 z, dirty := djL X j, on := true, writes := j, armed := true, left := n - j, keep := keep } else offD z X keep (n + 1)
theorem ar_on {z X : ByteArray} {keep : List Int} {n j : Nat} (h : j ≤ n) : arS z X keep n j = { now := setAll (z140 z) (djL X j), safe := z140 z, dirty := djL X j, on := true, writes := j, armed := true, left := n - j, keep := keep } := if_pos h
theorem ar_off {z X : ByteArray} {keep : List Int} {n j : Nat} (h : n < j) : arS z X keep n j = offD z X keep (n + 1) := if_neg (by omega)
theorem off_ok (z X : ByteArray) (keep : List Int) (d : Nat) : (offD z X keep d).Ok := ⟨rfl, by intro w hw; cases hw⟩
theorem ar_ok {z X : ByteArray} {keep : List Int} {n j : Nat} (hj : j ≤ 140) : (arS z X keep n j).Ok := by
  by_cases h : j ≤ n
  · rw [ar_on h]
    refine ⟨rfl, fun w hw => ?_⟩
    have hw : w ∈ djL X j := hw
    unfold djL at hw
    obtain ⟨i, hi, rfl⟩ := List.mem_map.1 hw
    have := List.mem_range.1 hi
    show i < (z140 z).length
    rw [z140_len]
    omega
  · rw [ar_off (by omega)]
    exact off_ok _ _ _ _
theorem ar_small (z X : ByteArray) (keep : List Int) (n j : Nat) (hn : n ≤ 60) (hj : j ≤ 60) : (arS z X keep n j).left ≤ 9223372036854775807 ∧ (arS z X keep n j).writes + 1 < 1000000000000 ∧ (arS z X keep n j).dirty.length + 1 < 1000000000000 := by
  by_cases h : j ≤ n
  · rw [ar_on h]
    refine ⟨?_, ?_, ?_⟩
    · show n - j ≤ _; omega
    · show j + 1 < _; omega
    · show (djL X j).length + 1 < _; rw [djL_len]; omega
  · rw [ar_off (by omega)]
    refine ⟨?_, ?_, ?_⟩
    · show 0 ≤ _; omega
    · show n + 1 + 1 < _; omega
    · show 0 + 1 < _; omega
theorem ar_start (z X : ByteArray) (keep : List Int) (n : Nat) (q : Int) (hq : q = (n : Int)) : (DS.fresh 140 z).arm q keep = arS z X keep n 0 := by
  subst hq
  rw [ar_on (Nat.zero_le _)]
  unfold DS.arm
  rw [if_neg (by omega), Int.toNat_natCast]
  rfl
theorem ar_write {z X : ByteArray} (keep : List Int) {n j : Nat} (hX : X.size = 256) (hj : j < 140) : (arS z X keep n j).errW [((j : Int), X)] = (if j < n then 0 else 14) ∧ (arS z X keep n j).write [((j : Int), X)] = arS z X keep n (j + 1) := by
  by_cases h : j ≤ n
  · have hl : (arS z X keep n j).now.length = 140 := by rw [ar_on h]; show (setAll _ _).length = 140; rw [setAll_length, z140_len]
    have hon : (arS z X keep n j).on = true := by rw [ar_on h]
    have hput : (arS z X keep n j).put j X = { now := setAll (z140 z) (djL X (j + 1)), safe := z140 z, dirty := djL X (j + 1), on := true, writes := j + 1, armed := true, left := n - j, keep := keep } := by
      rw [ar_on h]
      unfold DS.put
      rw [djL_succ, setAll_snoc]
    have e1 : (arS z X keep n j).err1 (j : Int) X = if j < n then 0 else 14 := by
      unfold DS.err1
      rw [if_pos ⟨by omega, by rw [hl]; omega⟩, if_pos hX, Int.toNat_natCast, hput]
      by_cases hjn : j < n
      · rw [if_pos hjn, if_neg (by unfold DS.fails; simp; omega)]
      · rw [if_neg hjn, if_pos (by unfold DS.fails; simp; omega)]
    have e2 : (arS z X keep n j).write1 (j : Int) X = arS z X keep n (j + 1) := by
      unfold DS.write1
      rw [if_pos ⟨by omega, by rw [hl]; omega, hX⟩, Int.toNat_natCast, hput]
      unfold DS.failed
      rw [if_pos rfl]
      by_cases hjn : j < n
      · rw [if_pos (by show 0 < n - j; omega), ar_on (by omega)]
        simp only [Nat.sub_sub]
      · have hjn : j = n := by omega
        subst hjn
        rw [if_neg (by show ¬ 0 < j - j; omega), ar_off (by omega)]
        rfl
    constructor
    · unfold DS.errW
      rw [if_pos hon]
      unfold DS.errL
      rw [e1]
      by_cases hjn : j < n
      · rw [if_pos hjn]; rfl
      · rw [if_neg hjn]; rfl
    · unfold DS.write
      rw [if_pos hon]
      unfold DS.writeL
      rw [e1, e2]
      by_cases hjn : j < n
      · rw [if_pos hjn]; rfl
      · rw [if_neg hjn]; rfl
  · rw [ar_off (by omega), ar_off (by omega)]
    constructor
    · rw [if_neg (by omega)]; rfl
    · rfl
theorem ar_flush_yes {z X : ByteArray} (keep : List Int) {n j : Nat} (h : j < n) : (arS z X keep n j).errF = 0 ∧ (arS z X keep n j).flush.on = true ∧ (arS z X keep n j).flush.dirty.length = 0 := by
  have hf : (arS z X keep n j).fails = false := by rw [ar_on (by omega)]; unfold DS.fails; simp; omega
  have hon : (arS z X keep n j).on = true := by rw [ar_on (by omega)]
  refine ⟨?_, ?_, ?_⟩
  · unfold DS.errF; rw [if_pos hon, hf]; rfl
  · unfold DS.flush
    rw [if_pos hon, hf]
    show (arS z X keep n j).failed.on = true
    unfold DS.failed
    rw [ar_on (by omega), if_pos rfl, if_pos (by show 0 < n - j; omega)]
  · unfold DS.flush
    rw [if_pos hon, hf]
    rfl
theorem ar_flush_no {z X : ByteArray} (keep : List Int) {n j : Nat} (h : n ≤ j) : (arS z X keep n j).errF = 14 ∧ (arS z X keep n j).flush = offD z X keep (min j (n + 1)) := by
  by_cases hj : j = n
  · subst hj
    have hf : (arS z X keep j j).fails = true := by rw [ar_on (Nat.le_refl _)]; unfold DS.fails; simp
    have hon : (arS z X keep j j).on = true := by rw [ar_on (Nat.le_refl _)]
    constructor
    · unfold DS.errF; rw [if_pos hon, hf]; rfl
    · unfold DS.flush
      rw [if_pos hon, hf]
      show (arS z X keep j j).failed = _
      rw [show min j (j + 1) = j by omega]
      unfold DS.failed
      rw [ar_on (Nat.le_refl _), if_pos rfl, if_neg (by show ¬ 0 < j - j; omega)]
      rfl
  · rw [ar_off (by omega), show min j (n + 1) = n + 1 by omega]
    exact ⟨rfl, rfl⟩
theorem off_read (z X : ByteArray) (keep : List Int) (d : Nat) {i : Nat} (hi : i < 140) : ((offD z X keep d).restore).read (i : Int) = (if i < d ∧ oddI (keep.getD i 0) = true then X else z) ∧ ((offD z X keep d).restore).errR (i : Int) = 0 := by
  have hl : ((offD z X keep d).restore).now.length = 140 := kD_len z X keep d
  constructor
  · unfold DS.read
    rw [if_pos ⟨rfl, by omega, by rw [hl]; omega⟩, Int.toNat_natCast, List.getD_eq_getElem?_getD]
    show ((kD z X keep d)[i]?).getD .empty = _
    rw [kD_get _ _ _ _ hi]
    rfl
  · unfold DS.errR
    rw [if_pos (show ((offD z X keep d).restore).on = true from rfl), if_pos ⟨by omega, by rw [hl]; omega⟩]
theorem off_write (z X Y : ByteArray) (keep : List Int) (d : Nat) (hY : Y.size = 256) : ((offD z X keep d).restore).errW [(0, Y)] = 0 := by
  have hl : ((offD z X keep d).restore).now.length = 140 := kD_len z X keep d
  have e := err1_plain (S := (offD z X keep d).restore) (i := 0) (by rw [hl]; omega) hY rfl
  unfold DS.errW
  rw [if_pos (show ((offD z X keep d).restore).on = true from rfl)]
  unfold DS.errL
  have e : ((offD z X keep d).restore).err1 0 Y = 0 := e
  rw [if_pos e]
  rfl
theorem off_small (z X : ByteArray) (keep : List Int) (d : Nat) (hz : z.size = 256) (hX : X.size = 256) : ∀ x ∈ ((offD z X keep d).restore).now, x.size ≤ 100000 := by
  intro x hx
  have hx : x ∈ kD z X keep d := hx
  obtain ⟨i, hi, rfl⟩ := List.getElem_of_mem hx
  have h140 : i < 140 := by rw [kD_len] at hi; exact hi
  have := kD_get z X keep d h140
  rw [List.getElem?_eq_getElem hi] at this
  injection this with this
  rw [this]
  split <;> omega
/-- A sector of x is none of zero bytes. -/
theorem fill_ne_zero : ((fillB ⟨#[120]⟩).toList == (zeroB 256).toList) = false ∧ ((zeroB 256).toList == (fillB ⟨#[120]⟩).toList) = false := by
  have h : (fillB ⟨#[120]⟩).toList ≠ (zeroB 256).toList := by
    rw [Lib.toList_data, Lib.toList_data]
    intro h
    have h2 := congrArg (fun l : List UInt8 => l[0]?) h
    have e1 : ((fillB ⟨#[120]⟩).data.toList)[0]? = some 120 := by
      show ((List.range 256).map (fillAt ⟨#[120]⟩))[0]? = _
      rfl
    have e2 : ((zeroB 256).data.toList)[0]? = some 0 := by
      rw [zeroB_list]
      rfl
    rw [e1, e2] at h2
    cases h2
  exact ⟨beq_eq_false_iff_ne.2 h, beq_eq_false_iff_ne.2 (fun e => h e.symm)⟩
end Go.Proofs.Ytokddfbjjghpkaa
