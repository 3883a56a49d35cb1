/-
  SHA-256 as a plain function of numbers and bytes. No statement is proved here.
-/
import Derived.Test.YtokddfbjjghpkaaDoorOnePure
namespace Go.Proofs.YtokddfbjjghpkaaDoor
open Go

def sig1 (e : Nat) : Nat := rotl e 26 ^^^ rotl e 21 ^^^ rotl e 7
def sig0 (a : Nat) : Nat := rotl a 30 ^^^ rotl a 19 ^^^ rotl a 10
def low0 (x : Nat) : Nat := rotl x 25 ^^^ rotl x 14 ^^^ x >>> 3
def low1 (x : Nat) : Nat := rotl x 15 ^^^ rotl x 13 ^^^ x >>> 10
def chW (e f g : Nat) : Nat := (e &&& f) ^^^ ((4294967295 ^^^ e) &&& g)
def majW (a b c : Nat) : Nat := (a &&& b) ^^^ (a &&& c) ^^^ (b &&& c)
def keysL : List Nat := [1116352408, 1899447441, 3049323471, 3921009573, 961987163, 1508970993, 2453635748, 2870763221, 3624381080, 310598401, 607225278, 1426881987, 1925078388, 2162078206, 2614888103, 3248222580] ++ [3835390401, 4022224774, 264347078, 604807628, 770255983, 1249150122, 1555081692, 1996064986, 2554220882, 2821834349, 2952996808, 3210313671, 3336571891, 3584528711, 113926993, 338241895] ++ [666307205, 773529912, 1294757372, 1396182291, 1695183700, 1986661051, 2177026350, 2456956037, 2730485921, 2820302411, 3259730800, 3345764771, 3516065817, 3600352804, 4094571909, 275423344] ++ [430227734, 506948616, 659060556, 883997877, 958139571, 1322822218, 1537002063, 1747873779, 1955562222, 2024104815, 2227730452, 2361852424, 2428436474, 2756734187, 3204031479, 3329325298]
structure S8 where
  a : Nat
  b : Nat
  c : Nat
  d : Nat
  e : Nat
  f : Nat
  g : Nat
  h : Nat
def S8.words (s : S8) : List Nat := [s.a, s.b, s.c, s.d, s.e, s.f, s.g, s.h]
def S8.ok (s : S8) : Prop := (s.a < 4294967296 ∧ s.b < 4294967296 ∧ s.c < 4294967296 ∧ s.d < 4294967296) ∧ (s.e < 4294967296 ∧ s.f < 4294967296 ∧ s.g < 4294967296 ∧ s.h < 4294967296)
def twoX (k x : Nat) (s : S8) : Nat := addW (addW (addW (addW s.h (sig1 s.e)) (chW s.e s.f s.g)) k) x
def twoY (s : S8) : Nat := addW (sig0 s.a) (majW s.a s.b s.c)
def step2 (k x : Nat) (s : S8) : S8 := ⟨addW (twoX k x s) (twoY s), s.a, s.b, s.c, addW s.d (twoX k x s), s.e, s.f, s.g⟩
def steps2 (l : List Nat) : Nat → S8 → S8
  | 0, s => s
  | n + 1, s => step2 (keysL.getD n 0) (l.getD n 0) (steps2 l n s)
def next2 (p : Nat → UInt8) (l : List Nat) (t : Nat) : Nat :=
  if t < 16 then wordB p t else addW (addW (addW (l.getD (t - 16) 0) (l.getD (t - 7) 0)) (low0 (l.getD (t - 15) 0))) (low1 (l.getD (t - 2) 0))
def words2 (p : Nat → UInt8) : Nat → List Nat
  | 0 => []
  | n + 1 => words2 p n ++ [next2 p (words2 p n) n]
def S8.plus (s z : S8) : S8 := ⟨addW s.a z.a, addW s.b z.b, addW s.c z.c, addW s.d z.d, addW s.e z.e, addW s.f z.f, addW s.g z.g, addW s.h z.h⟩
def mix2 (p : Nat → UInt8) (s : S8) : S8 := s.plus (steps2 (words2 p 64) 64 s)
def S8.init : S8 := ⟨1779033703, 3144134277, 1013904242, 2773480762, 1359893119, 2600822924, 528734635, 1541459225⟩
def hash2 (m : List UInt8) : Nat → S8
  | 0 => S8.init
  | k + 1 => mix2 (blockB m k) (hash2 m k)
def S8.text (s : S8) : List UInt8 := s.words.flatMap fun x => highB x 4
/-- The digest. -/
def twoB (m : List UInt8) : List UInt8 := (hash2 (m ++ padB m.length) ((m ++ padB m.length).length / 64)).text

theorem xor_lt {a b : Nat} (ha : a < 4294967296) (hb : b < 4294967296) : a ^^^ b < 4294967296 := Nat.xor_lt_two_pow (n := 32) ha hb
theorem and_lt (a : Nat) {b : Nat} (hb : b < 4294967296) : a &&& b < 4294967296 := Nat.and_lt_two_pow (n := 32) _ hb
theorem shr_lt {a : Nat} (n : Nat) (ha : a < 4294967296) : a >>> n < 4294967296 := by rw [Nat.shiftRight_eq_div_pow]; exact Nat.lt_of_le_of_lt (Nat.div_le_self _ _) ha
theorem sig1_lt {e : Nat} (h : e < 4294967296) : sig1 e < 4294967296 := xor_lt (xor_lt (rotl_lt _ _ h (by decide)) (rotl_lt _ _ h (by decide))) (rotl_lt _ _ h (by decide))
theorem sig0_lt {e : Nat} (h : e < 4294967296) : sig0 e < 4294967296 := xor_lt (xor_lt (rotl_lt _ _ h (by decide)) (rotl_lt _ _ h (by decide))) (rotl_lt _ _ h (by decide))
theorem low0_lt {e : Nat} (h : e < 4294967296) : low0 e < 4294967296 := xor_lt (xor_lt (rotl_lt _ _ h (by decide)) (rotl_lt _ _ h (by decide))) (shr_lt _ h)
theorem low1_lt {e : Nat} (h : e < 4294967296) : low1 e < 4294967296 := xor_lt (xor_lt (rotl_lt _ _ h (by decide)) (rotl_lt _ _ h (by decide))) (shr_lt _ h)
theorem step2_ok {k x : Nat} {s : S8} (h : s.ok) : (step2 k x s).ok := ⟨⟨addW_lt _ _, h.1.1, h.1.2.1, h.1.2.2.1⟩, ⟨addW_lt _ _, h.2.1, h.2.2.1, h.2.2.2.1⟩⟩
theorem steps2_ok (l : List Nat) (n : Nat) {s : S8} (h : s.ok) : (steps2 l n s).ok := by
  induction n with
  | zero => exact h
  | succ n ih => exact step2_ok ih
theorem plus2_ok (s z : S8) : (s.plus z).ok := ⟨⟨addW_lt _ _, addW_lt _ _, addW_lt _ _, addW_lt _ _⟩, ⟨addW_lt _ _, addW_lt _ _, addW_lt _ _, addW_lt _ _⟩⟩
theorem init2_ok : S8.init.ok := by unfold S8.ok S8.init; decide
theorem hash2_ok (m : List UInt8) (k : Nat) : (hash2 m k).ok := by
  cases k with
  | zero => exact init2_ok
  | succ k => exact plus2_ok _ _
theorem next2_lt {p : Nat → UInt8} {l : List Nat} (t : Nat) : next2 p l t < 4294967296 := by
  unfold next2
  split
  · exact wordB_lt _ _
  · exact addW_lt _ _
theorem words2_lt (p : Nat → UInt8) (n : Nat) : ∀ x ∈ words2 p n, x < 4294967296 := by
  induction n with
  | zero => intro x hx; cases hx
  | succ n ih =>
    intro x hx
    unfold words2 at hx
    rcases List.mem_append.1 hx with h | h
    · exact ih x h
    · rw [List.mem_singleton.1 h]; exact next2_lt n
theorem words2_length (p : Nat → UInt8) (n : Nat) : (words2 p n).length = n := by
  induction n with
  | zero => rfl
  | succ n ih => unfold words2; rw [List.length_append, ih]; rfl
theorem words2_next (p : Nat → UInt8) (n : Nat) : words2 p (n + 1) = words2 p n ++ [next2 p (words2 p n) n] := rfl
theorem next2_congr {p q : Nat → UInt8} (h : ∀ t, t < 64 → p t = q t) (l : List Nat) (n : Nat) : next2 p l n = next2 q l n := by
  unfold next2
  by_cases hn : n < 16
  · rw [if_pos hn, if_pos hn, wordB_congr h hn]
  · rw [if_neg hn, if_neg hn]
theorem words2_congr {p q : Nat → UInt8} (h : ∀ t, t < 64 → p t = q t) (n : Nat) : words2 p n = words2 q n := by
  induction n with
  | zero => rfl
  | succ n ih => rw [words2_next, words2_next, ih, next2_congr h]
theorem mix2_congr {p q : Nat → UInt8} (h : ∀ t, t < 64 → p t = q t) (s : S8) : mix2 p s = mix2 q s := by unfold mix2; rw [words2_congr h]
theorem hash2_next (m : List UInt8) (k : Nat) : hash2 m (k + 1) = mix2 (blockB m k) (hash2 m k) := rfl
theorem hash2_congr {m m' : List UInt8} (k : Nat) : (∀ i, i < 64 * k → m.getD i 0 = m'.getD i 0) → hash2 m k = hash2 m' k := by
  induction k with
  | zero => intro _; rfl
  | succ k ih =>
    intro h
    rw [hash2_next, hash2_next, ih (fun i hi => h i (by omega))]
    exact mix2_congr (fun t ht => h _ (by omega)) _
theorem hash2_app (m s : List UInt8) (k : Nat) (h : 64 * k ≤ m.length) : hash2 (m ++ s) k = hash2 m k := hash2_congr k fun i hi => getD_app m s i (by omega)
theorem text2_length (s : S8) : s.text.length = 32 := by unfold S8.text S8.words; simp [highB_length]
theorem twoB_length (m : List UInt8) : (twoB m).length = 32 := text2_length _
theorem keysL_length : keysL.length = 64 := rfl
theorem keysL_lt : ∀ x ∈ keysL, x < 4294967296 := by decide

theorem two_abc : hexB (twoB [97, 98, 99]) = [98, 97, 55, 56, 49, 54, 98, 102, 56, 102, 48, 49, 99, 102, 101, 97, 52, 49, 52, 49, 52, 48, 100, 101, 53, 100, 97, 101, 50, 50, 50, 51, 98, 48, 48, 51, 54, 49, 97, 51, 57, 54, 49, 55, 55, 97, 57, 99, 98, 52, 49, 48, 102, 102, 54, 49, 102, 50, 48, 48, 49, 53, 97, 100] := by decide +kernel
end Go.Proofs.YtokddfbjjghpkaaDoor
