/-
  Fingerprints as plain values: a kind and its bytes; how long, how they are held against each other. No statement is proved here.
-/
import Derived.Test.YtingkbeifohihaaGreatDoorCards
import Derived.Test.YtingkbeifohihaaGreatDoorTie
import Derived.WalkKit
import Derived.ProofKit
import Derived.OpenShut
import Derived.Deep.DeepHandedRow
import Derived.Lib.LaidTab
import Derived.SizedLaws
import Derived.Lib.Strings
import Derived.Lib.Bytealg
import Derived.Lib.Small
namespace Go.Proofs.YtingkbeifohihaaGreatDoor
open Go.ChangeShapes Go.WideShapes Go.ChangeAt Go.RowKit
theorem vY : ownKnob Tryz.prog.godebug = none := by kernel_rfl
def firstCells : Array Value := (Go.Pinned.utf8FirstZ.map (fun n : Nat => Value.int .u8 (n : Int))).toArray
def Hk : Array Value := #[.int .u8 128, .int .u8 191, .int .u8 160, .int .u8 191, .int .u8 128, .int .u8 159, .int .u8 144, .int .u8 191, .int .u8 128, .int .u8 143,
 .int .u8 0, .int .u8 0, .int .u8 0, .int .u8 0, .int .u8 0, .int .u8 0, .int .u8 0, .int .u8 0, .int .u8 0, .int .u8 0, .int .u8 0, .int .u8 0,
 .int .u8 0, .int .u8 0, .int .u8 0, .int .u8 0, .int .u8 0, .int .u8 0, .int .u8 0, .int .u8 0, .int .u8 0, .int .u8 0]
def Qx (cs : Array Value) : Obj -> Obj
 | .cells _ t frozen => .cells cs t frozen
 | o => o
noncomputable def fM (os : Os) : World :=
 { World.holding Tryz.prog os ⟨#[], #[], []⟩ with
   heap := ((World.holding Tryz.prog os ⟨#[], #[], []⟩).heap.modify 1 (Qx firstCells)).modify 2 (Qx Hk) }
structure Rd where
 b : ByteArray
 e : Int
def Rd.fail (s : Rd) (c : Int) : Rd := if s.e = 0 then ⟨.empty, c⟩ else s
def Rd.take (s : Rd) (n : Int) : ByteArray × Bool × Rd :=
 if s.e ≠ 0 then (.empty, false, s)
 else if n < 0 then (.empty, false, ⟨.empty, 1⟩)
 else if (s.b.size : Int) < n then (.empty, false, ⟨.empty, 5⟩)
 else (s.b.extract 0 n.toNat, true, ⟨s.b.extract n.toNat s.b.size, 0⟩)
def oC : List UInt8 -> Nat
 | [] => 0
 | x :: l => x.toNat + 256 * oC l
def Rd.num (s : Rd) (k : Nat) : Int × Rd :=
 if (s.take k).2.1 = true then
  (if 9223372036854775807 < (oC (s.take k).1.data.toList : Int) then (0, ⟨.empty, 6⟩) else ((oC (s.take k).1.data.toList : Int), (s.take k).2.2))
 else (0, (s.take k).2.2)
def Rd.raw (s : Rd) (n : Int) : ByteArray × Rd := ((s.take n).1, (s.take n).2.2)
def Rd.text (s : Rd) : ByteArray × Rd := (s.num 2).2.raw (s.num 2).1
def Rd.rest (s : Rd) : Bool := (s.e == 0) && s.b.data.toList.all (· == 0)
def Rd.fin (s : Rd) : Int × Rd := if s.rest = true then (s.e, s) else ((s.fail 6).e, s.fail 6)
theorem Cj (l : List UInt8) : oC l < 256 ^ l.length := by
 induction l with
 | nil => simp [oC]
 | cons x l ih =>
   have := x.toNat_lt
   simp only [oC, List.length_cons, Nat.pow_succ]
   omega
theorem Rc (l : List UInt8) (x : UInt8) : oC (l ++ [x]) = oC l + x.toNat * 256 ^ l.length := by
 induction l with
 | nil => simp [oC]
 | cons y l ih =>
   simp only [List.cons_append, oC, ih, List.length_cons, Nat.pow_succ]
   have : 256 * (x.toNat * 256 ^ l.length) = x.toNat * (256 ^ l.length * 256) := by
    rw [Nat.mul_comm 256, Nat.mul_assoc]
   omega
theorem Rd.size_take (s : Rd) (n : Int) : (s.take n).2.2.b.size <= s.b.size /\ (s.take n).1.size <= s.b.size := by
 unfold Rd.take; split
 ·simp
 ·split
  ·simp
  ·split
   ·simp
   ·simp
    omega
theorem Rd.size_num (s : Rd) (k : Nat) : (s.num k).2.b.size <= s.b.size := by
 unfold Rd.num; split
 ·split
  ·simp
  ·exact (s.size_take k).1
 ·exact (s.size_take k).1
theorem Rd.size_raw (s : Rd) (n : Int) : (s.raw n).2.b.size <= s.b.size := (s.size_take n).1
theorem Rd.size_text (s : Rd) : s.text.2.b.size <= s.b.size := Nat.le_trans (Rd.size_raw _ _) (Rd.size_num _ _)
theorem Rd.num_range (s : Rd) (k : Nat) : 0 <= (s.num k).1 /\ (s.num k).1 <= 9223372036854775807 := by
 unfold Rd.num; split
 ·split
  ·simp
  ·exact ⟨by simp, by simp; omega⟩
 ·simp
theorem Yv (l : List UInt8) (x : UInt8) (j : Nat) (hl : l.length = j) (hj : j < 8) :
  bits .or .u64 (oC l : Int) (IntKind.u64.wrap (IntKind.u64.wrap (x.toNat : Int) * 2 ^ (8 * j))) = (oC (l ++ [x]) : Int) := by
 have h1 := Cj l
 have h2 := x.toNat_lt
 rw [hl] at h1
 have hp : (256 : Nat) ^ j = 2 ^ (8 * j) := by rw [Nat.pow_mul]
 rw [Rc, hl, hp]
 rw [hp] at h1
 have h3 : x.toNat * 2 ^ (8 * j) < 18446744073709551616 := by
  have : x.toNat * 2 ^ (8 * j) < 2 ^ 8 * 2 ^ (8 * j) := Nat.mul_lt_mul_of_pos_right (by omega) (Nat.pow_pos (by omega))
  rw [<- Nat.pow_add] at this
  exact Nat.lt_of_lt_of_le this (Nat.pow_le_pow_right (by omega) (show 8 + 8 * j <= 64 by omega))
 have h4 : oC l < 18446744073709551616 := Nat.lt_of_lt_of_le h1 (Nat.pow_le_pow_right (by omega) (show 8 * j <= 64 by omega))
 have e1 : IntKind.u64.wrap (x.toNat : Int) = (x.toNat : Int) := IntWalk.u64_in _ (by omega)
 have e2 : ((x.toNat : Int) * 2 ^ (8 * j)) = ((x.toNat * 2 ^ (8 * j) : Nat) : Int) := by simp
 rw [e1, e2, IntWalk.u64_in _ (by omega), u64_or_nat _ _ h4 h3, Nat.or_comm, nat_join (8 * j) _ _ (Nat.mul_mod_left _ _) h1]
 congr 1
 omega
theorem Rd.take_yes {s : Rd} {n : Int} (h : (s.take n).2.1 = true) : s.e = 0 /\ 0 <= n /\ n <= (s.b.size : Int) /\ (s.take n).1 = s.b.extract 0 n.toNat /\ (s.take n).2.2 = ⟨s.b.extract n.toNat s.b.size, 0⟩ := by
 unfold Rd.take at h ⊢
 split at h
 ·cases h
 ·rename_i h0
  split at h
  ·cases h
  ·rename_i h1
   split at h
   ·cases h
   ·rename_i h2
    simp only [h0, h1, h2, if_false]
    refine ⟨by simpa using h0, by omega, by omega, ?_, ?_⟩ <;> simp
theorem Rd.take_size {s : Rd} {k : Nat} (h : (s.take k).2.1 = true) : (s.take k).1.size = k := by
 obtain ⟨_, _, h2, h3, _⟩ := Rd.take_yes h
 rw [h3]
 simp
 omega
structure Wr where
 l : List UInt8
 e : Int
def Wr.lay (s : Wr) (b : List UInt8) : Wr := if s.e = 0 then ⟨s.l ++ b, 0⟩ else s
def Wr.fail (s : Wr) (c : Int) : Wr := if s.e = 0 then ⟨[], c⟩ else s
def aD : Nat -> Nat -> List UInt8
 | 0, _ => []
 | k + 1, n => n.toUInt8 :: aD k (n / 256)
def fits (k : Nat) (n : Int) : Bool := decide (0 <= n) && (n.toNat / 256 ^ k == 0)
def cO (k : Nat) (l : List Int) : Bool := l.all (fits k)
def aO (k : Nat) (l : List Int) : List UInt8 := l.flatMap fun n => aD k n.toNat
def Wr.nums (s : Wr) (k : Nat) (l : List Int) : Wr := if cO k l = true then s.lay (aO k l) else s.fail 1
def cC (t : ByteArray) : List UInt8 := aD 2 t.size ++ t.data.toList
def eB (l : List ByteArray) : Bool := l.all fun t => decide (t.size <= 65535)
def Wr.texts (s : Wr) (l : List ByteArray) : Wr := if eB l = true then s.lay (l.flatMap cC) else s.fail 2
def Wr.raws (s : Wr) (l : List ByteArray) : Wr := s.lay (l.flatMap fun t => t.data.toList)
def Wr.pad (s : Wr) (n : Int) : Wr :=
 if n < 0 \/ 65536 < n then s.fail 1
 else if n < (s.l.length : Int) then s.fail 2
 else s.lay (List.replicate (n.toNat - s.l.length) 0)
def Wr.ok (s : Wr) : Prop := s.e ≠ 0 -> s.l = []
theorem aL (k n : Nat) : (aD k n).length = k := by
 induction k generalizing n with
 | zero => rfl
 | succ k ih => simp [aD, ih]
theorem rJ (k n : Nat) : oC (aD k n) = n % 256 ^ k := by
 induction k generalizing n with
 | zero => simp [aD, oC, Nat.mod_one]
 | succ k ih =>
   have h : (n.toUInt8).toNat = n % 256 := by simp [Nat.toUInt8]
   simp only [aD, oC, ih, h, Nat.pow_succ]
   rw [Nat.mul_comm (256 ^ k) 256, Nat.mod_mul]
theorem qA (k n : Nat) : aD (k + 1) n = aD k n ++ [(n / 256 ^ k).toUInt8] := by
 induction k generalizing n with
 | zero => simp [aD]
 | succ k ih =>
   rw [aD, ih, aD, Nat.div_div_eq_div_mul, Nat.pow_succ, Nat.mul_comm 256]
   rfl
theorem dG (k : Nat) (l : List Int) : (aO k l).length = l.length * k := by
 unfold aO
 induction l with
 | nil => simp
 | cons x l ih => simp only [List.flatMap_cons, List.length_append, ih, aL, List.length_cons, Nat.add_mul]; omega
theorem fR (k : Nat) (n : Int) : fits k n = true ↔ 0 <= n /\ n < 256 ^ k := by
 unfold fits
 simp
 intro h
 have : 0 < 256 ^ k := Nat.pow_pos (by omega)
 have e : ((256 ^ k : Nat) : Int) = 256 ^ k := by simp
 omega
theorem Ah (x : Int) (k : Nat) (h : 0 <= x) : x / 2 ^ (8 * k) = ((x.toNat / 256 ^ k : Nat) : Int) := by
 obtain ⟨n, rfl⟩ := Int.eq_ofNat_of_zero_le h
 have e : (256 : Nat) ^ k = 2 ^ (8 * k) := by rw [Nat.pow_mul]
 rw [Int.toNat_natCast, e]
 simp
theorem Dw (x : Int) (k : Nat) (h : 0 <= x) : (x / 2 ^ (8 * k) != 0) = !fits k x := by
 rw [Ah x k h]
 unfold fits
 generalize x.toNat / 256 ^ k = y
 rw [decide_eq_true h, Bool.true_and]
 rw [Bool.eq_iff_iff]
 cases y with
 | zero => simp
 | succ y => simp; omega
theorem Dx (k : Nat) (l : List Int) (x : Int) : cO k (l ++ [x]) = (cO k l && fits k x) := by simp [cO]
theorem Ai {k : Nat} {l : List Int} {x : Int} (h : x ∈ l) (hx : fits k x = false) : cO k l = false := by
 unfold cO
 rw [List.all_eq_false]
 exact ⟨x, h, by simp [hx]⟩
def iJ (kind : Int) : Int := if kind = 1 then 20 else if kind = 2 then 32 else 0
def kG (kind : Int) (s : ByteArray) : Bool := decide (0 < iJ kind) && decide ((s.size : Int) = iJ kind)
theorem lJ {k : Int} (h1 : k ≠ 1) (h2 : k ≠ 2) : iJ k = 0 := by unfold iJ; rw [if_neg h1, if_neg h2]
theorem lK (k : Int) : 0 <= iJ k /\ iJ k <= 32 := by unfold iJ; split <;> (try split) <;> omega
end Go.Proofs.YtingkbeifohihaaGreatDoor
