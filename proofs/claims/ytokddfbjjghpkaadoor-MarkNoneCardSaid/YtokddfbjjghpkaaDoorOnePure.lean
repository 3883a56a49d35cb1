/-
  SHA-1 as a plain function of numbers and bytes. No statement is proved here.
-/
import Derived.WalkKit
import Derived.Lib.Strings
namespace Go.Proofs.YtokddfbjjghpkaaDoor
open Go

/-- A word turned left. -/
def rotl (x n : Nat) : Nat := (x <<< n) % 4294967296 ||| x >>> (32 - n)
/-- The sum of words. -/
def addW (x y : Nat) : Nat := (x + y) % 4294967296
/-- What a round makes of three words, and its number. -/
def pickW (t b c d : Nat) : Nat :=
  if t < 20 then (b &&& c) ||| ((4294967295 ^^^ b) &&& d) else if t < 40 then b ^^^ c ^^^ d else if t < 60 then ((b &&& c) ||| (b &&& d)) ||| (c &&& d) else b ^^^ c ^^^ d
def kayW (t : Nat) : Nat := if t < 20 then 1518500249 else if t < 40 then 1859775393 else if t < 60 then 2400959708 else 3395469782
structure St where
  a : Nat
  b : Nat
  c : Nat
  d : Nat
  e : Nat
def St.ok (s : St) : Prop := s.a < 4294967296 ∧ s.b < 4294967296 ∧ s.c < 4294967296 ∧ s.d < 4294967296 ∧ s.e < 4294967296
def St.words (s : St) : List Nat := [s.a, s.b, s.c, s.d, s.e]
def stepW (x : Nat) (t : Nat) (s : St) : St := ⟨addW (addW (addW (addW (rotl s.a 5) (pickW t s.b s.c s.d)) s.e) (kayW t)) x, s.a, rotl s.b 30, s.c, s.d⟩
def stepsW (l : List Nat) : Nat → St → St
  | 0, s => s
  | n + 1, s => stepW (l.getD n 0) n (stepsW l n s)
/-- A word of four bytes. -/
def wordB (p : Nat → UInt8) (t : Nat) : Nat := (((p (4 * t)).toNat <<< 24 ||| (p (4 * t + 1)).toNat <<< 16) ||| (p (4 * t + 2)).toNat <<< 8) ||| (p (4 * t + 3)).toNat
def nextW (p : Nat → UInt8) (l : List Nat) (t : Nat) : Nat :=
  if t < 16 then wordB p t else rotl (l.getD (t - 3) 0 ^^^ l.getD (t - 8) 0 ^^^ l.getD (t - 14) 0 ^^^ l.getD (t - 16) 0) 1
def wordsB (p : Nat → UInt8) : Nat → List Nat
  | 0 => []
  | n + 1 => wordsB p n ++ [nextW p (wordsB p n) n]
/-- What s is behind a block. -/
def St.plus (s z : St) : St := ⟨addW s.a z.a, addW s.b z.b, addW s.c z.c, addW s.d z.d, addW s.e z.e⟩
def mixB (p : Nat → UInt8) (s : St) : St := s.plus (stepsW (wordsB p 80) 80 s)
def St.init : St := ⟨1732584193, 4023233417, 2562383102, 271733878, 3285377520⟩
/-- Block k of bytes. -/
def blockB (m : List UInt8) (k : Nat) : Nat → UInt8 := fun t => m.getD (64 * k + t) 0
def hashB (m : List UInt8) : Nat → St
  | 0 => St.init
  | k + 1 => mixB (blockB m k) (hashB m k)
/-- Bytes of a number, the highest first. -/
def highB (v : Nat) : Nat → List UInt8
  | 0 => []
  | n + 1 => (v >>> (8 * n)).toUInt8 :: highB v n
def zerosP (n : Nat) : Nat := (119 - n % 64) % 64
/-- What stands behind n bytes. -/
def padB (n : Nat) : List UInt8 := 128 :: (List.replicate (zerosP n) 0 ++ highB (8 * n) 8)
def St.text (s : St) : List UInt8 := highB s.a 4 ++ (highB s.b 4 ++ (highB s.c 4 ++ (highB s.d 4 ++ highB s.e 4)))
/-- The digest. -/
def oneB (m : List UInt8) : List UInt8 := (hashB (m ++ padB m.length) ((m ++ padB m.length).length / 64)).text
/-- Bytes in sixteens. -/
def hexD (n : Nat) : UInt8 := if n < 10 then (48 + n).toUInt8 else (87 + n).toUInt8
def hexB (l : List UInt8) : List UInt8 := l.flatMap fun b => [hexD (b.toNat / 16), hexD (b.toNat % 16)]

theorem rotl_lt (x n : Nat) (h : x < 4294967296) (_hn : n ≤ 32) : rotl x n < 4294967296 := by
  unfold rotl
  refine Nat.or_lt_two_pow (n := 32) (Nat.mod_lt _ (by decide)) ?_
  rw [Nat.shiftRight_eq_div_pow]
  exact Nat.lt_of_le_of_lt (Nat.div_le_self _ _) h
theorem addW_lt (x y : Nat) : addW x y < 4294967296 := Nat.mod_lt _ (by decide)
theorem kayW_lt (t : Nat) : kayW t < 4294967296 := by unfold kayW; split <;> (try split) <;> (try split) <;> decide
theorem pickW_lt {t b c d : Nat} (hb : b < 4294967296) (hc : c < 4294967296) (hd : d < 4294967296) : pickW t b c d < 4294967296 := by
  have hb : b < 2 ^ 32 := hb
  have hc : c < 2 ^ 32 := hc
  have hd : d < 2 ^ 32 := hd
  have h1 : b ^^^ c ^^^ d < 2 ^ 32 := Nat.xor_lt_two_pow (Nat.xor_lt_two_pow hb hc) hd
  have h2 : b &&& c < 2 ^ 32 := Nat.and_lt_two_pow _ hc
  have h3 : b &&& d < 2 ^ 32 := Nat.and_lt_two_pow _ hd
  have h4 : c &&& d < 2 ^ 32 := Nat.and_lt_two_pow _ hd
  have h5 : (4294967295 ^^^ b) &&& d < 2 ^ 32 := Nat.and_lt_two_pow _ hd
  unfold pickW
  split
  · exact Nat.or_lt_two_pow h2 h5
  · split
    · exact h1
    · split
      · exact Nat.or_lt_two_pow (Nat.or_lt_two_pow h2 h3) h4
      · exact h1
theorem stepW_ok {x t : Nat} {s : St} (h : s.ok) : (stepW x t s).ok := ⟨addW_lt _ _, h.1, rotl_lt _ _ h.2.1 (by decide), h.2.2.1, h.2.2.2.1⟩
theorem stepsW_ok (l : List Nat) (n : Nat) {s : St} (h : s.ok) : (stepsW l n s).ok := by
  induction n with
  | zero => exact h
  | succ n ih => exact stepW_ok ih
theorem plus_ok (s z : St) : (s.plus z).ok := ⟨addW_lt _ _, addW_lt _ _, addW_lt _ _, addW_lt _ _, addW_lt _ _⟩
theorem init_ok : St.init.ok := by unfold St.ok St.init; decide
theorem mixB_ok (p : Nat → UInt8) (s : St) : (mixB p s).ok := plus_ok _ _
theorem hashB_ok (m : List UInt8) (k : Nat) : (hashB m k).ok := by
  cases k with
  | zero => exact init_ok
  | succ k => exact mixB_ok _ _
theorem byte_lt (x : UInt8) : x.toNat < 256 := x.toNat_lt
theorem wordB_lt (p : Nat → UInt8) (t : Nat) : wordB p t < 4294967296 := by
  have h : ∀ (x : UInt8) (n : Nat), n ≤ 24 → x.toNat <<< n < 2 ^ 32 := fun x n hn => by
    rw [Nat.shiftLeft_eq]
    have h1 : x.toNat < 256 := byte_lt x
    have h2 : 2 ^ n ≤ 2 ^ 24 := Nat.pow_le_pow_right (by decide) hn
    calc x.toNat * 2 ^ n < 256 * 2 ^ n := Nat.mul_lt_mul_of_pos_right h1 (Nat.two_pow_pos n)
      _ ≤ 256 * 2 ^ 24 := Nat.mul_le_mul_left _ h2
      _ = 2 ^ 32 := by decide
  unfold wordB
  refine Nat.or_lt_two_pow (n := 32) (Nat.or_lt_two_pow (Nat.or_lt_two_pow (h _ _ (by decide)) (h _ _ (by decide))) (h _ _ (by decide))) ?_
  have := byte_lt (p (4 * t + 3))
  omega
theorem getD_lt {l : List Nat} {B : Nat} (h : ∀ x ∈ l, x < B) (hB : 0 < B) (i : Nat) : l.getD i 0 < B := by
  by_cases hi : i < l.length
  · rw [List.getD_eq_getElem?_getD, List.getElem?_eq_getElem hi]
    exact h _ (List.getElem_mem hi)
  · rw [List.getD_eq_getElem?_getD, List.getElem?_eq_none (by omega)]
    exact hB
theorem nextW_lt {p : Nat → UInt8} {l : List Nat} (h : ∀ x ∈ l, x < 4294967296) (t : Nat) : nextW p l t < 4294967296 := by
  unfold nextW
  split
  · exact wordB_lt _ _
  · have g := fun i => getD_lt h (by decide) i
    exact rotl_lt _ _ (Nat.xor_lt_two_pow (n := 32) (Nat.xor_lt_two_pow (Nat.xor_lt_two_pow (g _) (g _)) (g _)) (g _)) (by decide)
theorem wordsB_lt (p : Nat → UInt8) (n : Nat) : ∀ x ∈ wordsB p n, x < 4294967296 := by
  induction n with
  | zero => intro x hx; cases hx
  | succ n ih =>
    intro x hx
    unfold wordsB at hx
    rcases List.mem_append.1 hx with h | h
    · exact ih x h
    · rw [List.mem_singleton.1 h]; exact nextW_lt ih n
theorem wordsB_length (p : Nat → UInt8) (n : Nat) : (wordsB p n).length = n := by
  induction n with
  | zero => rfl
  | succ n ih => unfold wordsB; rw [List.length_append, ih]; rfl
theorem wordB_congr {p q : Nat → UInt8} (h : ∀ t, t < 64 → p t = q t) {n : Nat} (hn : n < 16) : wordB p n = wordB q n := by
  unfold wordB
  rw [h _ (by omega), h _ (by omega), h _ (by omega), h _ (by omega)]
theorem nextW_congr {p q : Nat → UInt8} (h : ∀ t, t < 64 → p t = q t) (l : List Nat) (n : Nat) : nextW p l n = nextW q l n := by
  unfold nextW
  by_cases hn : n < 16
  · rw [if_pos hn, if_pos hn, wordB_congr h hn]
  · rw [if_neg hn, if_neg hn]
theorem wordsB_next (p : Nat → UInt8) (n : Nat) : wordsB p (n + 1) = wordsB p n ++ [nextW p (wordsB p n) n] := rfl
theorem wordsB_congr {p q : Nat → UInt8} (h : ∀ t, t < 64 → p t = q t) (n : Nat) : wordsB p n = wordsB q n := by
  induction n with
  | zero => rfl
  | succ n ih => rw [wordsB_next, wordsB_next, ih, nextW_congr h]
theorem mixB_congr {p q : Nat → UInt8} (h : ∀ t, t < 64 → p t = q t) (s : St) : mixB p s = mixB q s := by unfold mixB; rw [wordsB_congr h]
theorem hashB_next (m : List UInt8) (k : Nat) : hashB m (k + 1) = mixB (blockB m k) (hashB m k) := rfl
theorem hashB_congr {m m' : List UInt8} (k : Nat) : (∀ i, i < 64 * k → m.getD i 0 = m'.getD i 0) → hashB m k = hashB m' k := by
  induction k with
  | zero => intro _; rfl
  | succ k ih =>
    intro h
    rw [hashB_next, hashB_next, ih (fun i hi => h i (by omega))]
    exact mixB_congr (fun t ht => h _ (by omega)) _
/-- More bytes behind them leave the blocks before. -/
theorem getD_app (m s : List UInt8) (i : Nat) (h : i < m.length) : (m ++ s).getD i 0 = m.getD i 0 := by
  rw [List.getD_eq_getElem?_getD, List.getD_eq_getElem?_getD, List.getElem?_append_left h]
theorem getD_app' (m s : List UInt8) (i : Nat) (h : m.length ≤ i) : (m ++ s).getD i 0 = s.getD (i - m.length) 0 := by
  rw [List.getD_eq_getElem?_getD, List.getD_eq_getElem?_getD, List.getElem?_append_right h]
theorem hashB_app (m s : List UInt8) (k : Nat) (h : 64 * k ≤ m.length) : hashB (m ++ s) k = hashB m k := hashB_congr k fun i hi => getD_app m s i (by omega)
theorem highB_length (v n : Nat) : (highB v n).length = n := by
  induction n with
  | zero => rfl
  | succ n ih => unfold highB; rw [List.length_cons, ih]
theorem zerosP_lt (n : Nat) : zerosP n < 64 := Nat.mod_lt _ (by decide)
theorem padB_length (n : Nat) : (padB n).length = 9 + zerosP n := by unfold padB; rw [List.length_cons, List.length_append, List.length_replicate, highB_length]; omega
theorem padB_whole (n : Nat) : (n + (padB n).length) % 64 = 0 := by rw [padB_length]; unfold zerosP; omega
theorem text_length (s : St) : s.text.length = 20 := by unfold St.text; simp [highB_length]
theorem oneB_length (m : List UInt8) : (oneB m).length = 20 := text_length _

theorem one_abc : hexB (oneB [97, 98, 99]) = [97, 57, 57, 57, 51, 101, 51, 54, 52, 55, 48, 54, 56, 49, 54, 97, 98, 97, 51, 101, 50, 53, 55, 49, 55, 56, 53, 48, 99, 50, 54, 99, 57, 99, 100, 48, 100, 56, 57, 100] := by decide +kernel
end Go.Proofs.YtokddfbjjghpkaaDoor
