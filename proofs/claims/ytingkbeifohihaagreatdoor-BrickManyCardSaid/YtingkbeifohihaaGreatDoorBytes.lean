/-
  Rows of bytes that a call makes: zero bytes, and a text out of a row. No statement is proved here.
-/
import Derived.Test.YtingkbeifohihaaGreatDoorProg
import Derived.Test.YtingkbeifohihaaGreatDoorMarkSmall
import Derived.Lib.Strings
import Derived.WalkKit
import Derived.Laws.BitsAllLaws
import Derived.BigQuiet
import Derived.BigCall
import Derived.BigRegion
import Derived.Deep.QuietTactic
import Derived.Deep.AppendLies
import Derived.Lib.Bytes
namespace Go.Proofs.YtingkbeifohihaaGreatDoor
open Go.RowKit
def dL (w : World) (B : Nat) (A : Option Addr) (xs : List ByteArray) : Prop :=
 0 < xs.length -> ∃ b off, A = some ⟨b, off, none⟩ /\ b < B /\ ∀ (j : Nat) (x : ByteArray), xs[j]? = some x -> w.cell? ⟨b, off + j, none⟩ = some (.string x)
theorem dL.nil (w : World) (B : Nat) (A : Option Addr) : dL w B A [] := fun h => absurd h (by simp)
theorem dL.more {w : World} {B B' : Nat} {A : Option Addr} {xs : List ByteArray} (h : dL w B A xs) (hB : B <= B') : dL w B' A xs := fun hp => by
 obtain ⟨b, off, e, hb, hc⟩ := h hp
 exact ⟨b, off, e, by omega, hc⟩
theorem dL.keep {w w' : World} {B : Nat} {A : Option Addr} {xs : List ByteArray} (h : dL w B A xs) (hk : ∀ p : Addr, p.block < B -> w'.cell? p = w.cell? p) : dL w' B A xs := by
 intro hp
 obtain ⟨b, off, e, hb, hc⟩ := h hp
 exact ⟨b, off, e, hb, fun j x hx => (hk _ hb).trans (hc j x hx)⟩
theorem dL.below {w w' : World} {B : Nat} {A : Option Addr} {xs : List ByteArray} (h : dL w B A xs) (hb : Below B w w') : dL w' B A xs := h.keep fun _ hp => hb.cell hp
def aW (l : List ByteArray) : List UInt8 := l.flatMap fun t => t.data.toList
theorem gM {l : List ByteArray} {j : Nat} {x : ByteArray} (h : l[j]? = some x) : aW (l.take (j + 1)) = aW (l.take j) ++ x.data.toList := by
 rw [List.take_add_one, h]; simp [aW]
theorem kH {l : List ByteArray} {j : Nat} {x : ByteArray} (h : l[j]? = some x) : (aW (l.take j)).length + x.size <= (aW l).length := by
 have e : aW l = aW (l.take (j + 1)) ++ aW (l.drop (j + 1)) := by unfold aW; rw [<- List.flatMap_append, List.take_append_drop]
 rw [e, gM h, List.length_append, List.length_append, Lib.size_eq]
 omega
theorem Rh (w : World) (xs : List ByteArray) : dL (w.alloc (.cells (xs.map Value.string).toArray 9)) (w.alloc (.cells (xs.map Value.string).toArray 9)).heap.size (some ⟨w.heap.size, 0, none⟩) xs := by
 intro _
 refine ⟨w.heap.size, 0, rfl, by simp, fun j x hx => ?_⟩
 have := (aG.new w 9 (xs.map Value.string).toArray).cell (0 + j)
 rw [this]
 simp [hx]
theorem jU (w : World) (cs : Array Value) (xs : List ByteArray) (g : Nat) (hg : w.heap.size = g) (hcs : cs = (xs.map Value.string).toArray) :
  dL (w.alloc (.cells cs 9)) (w.alloc (.cells cs 9)).heap.size (some ⟨g, 0, none⟩) xs := by
 subst hg; subst hcs
 exact Rh w xs
def oD (xs : List ByteArray) : Prop := xs.length <= 1000 /\ ∀ x ∈ xs, x.size <= 100000
theorem Hp (xs : List ByteArray) (B : Nat) (h : ∀ x ∈ xs, x.size <= B) : (aW xs).length <= xs.length * B := by
 induction xs with
 | nil => simp [aW]
 | cons x l ih =>
   have h1 := ih (fun y hy => h y (by simp [hy]))
   have h2 := h x (by simp)
   have e : aW (x :: l) = x.data.toList ++ aW l := by simp [aW]
   rw [e, List.length_append, List.length_cons, Nat.add_mul, <- Lib.size_eq]
   omega
theorem eW (x : ByteArray) : aW [x] = x.data.toList := by simp [aW]
open Go
def bY (x n : Nat) : Nat := (x <<< n) % 4294967296 ||| x >>> (32 - n)
def bB (x y : Nat) : Nat := (x + y) % 4294967296
def jQ (t b c d : Nat) : Nat :=
 if t < 20 then (b &&& c) ||| ((4294967295 ^^^ b) &&& d) else if t < 40 then b ^^^ c ^^^ d else if t < 60 then ((b &&& c) ||| (b &&& d)) ||| (c &&& d) else b ^^^ c ^^^ d
def pX (t : Nat) : Nat := if t < 20 then 1518500249 else if t < 40 then 1859775393 else if t < 60 then 2400959708 else 3395469782
structure St where
 a : Nat
 b : Nat
 c : Nat
 d : Nat
 e : Nat
def St.ok (s : St) : Prop := s.a < 4294967296 /\ s.b < 4294967296 /\ s.c < 4294967296 /\ s.d < 4294967296 /\ s.e < 4294967296
def St.words (s : St) : List Nat := [s.a, s.b, s.c, s.d, s.e]
def Ak (x : Nat) (t : Nat) (s : St) : St := ⟨bB (bB (bB (bB (bY s.a 5) (jQ t s.b s.c s.d)) s.e) (pX t)) x, s.a, bY s.b 30, s.c, s.d⟩
def gW (l : List Nat) : Nat -> St -> St
 | 0, s => s
 | n + 1, s => Ak (l.getD n 0) n (gW l n s)
def mK (p : Nat -> UInt8) (t : Nat) : Nat := (((p (4 * t)).toNat <<< 24 ||| (p (4 * t + 1)).toNat <<< 16) ||| (p (4 * t + 2)).toNat <<< 8) ||| (p (4 * t + 3)).toNat
def kI (p : Nat -> UInt8) (l : List Nat) (t : Nat) : Nat :=
 if t < 16 then mK p t else bY (l.getD (t - 3) 0 ^^^ l.getD (t - 8) 0 ^^^ l.getD (t - 14) 0 ^^^ l.getD (t - 16) 0) 1
def bM (p : Nat -> UInt8) : Nat -> List Nat
 | 0 => []
 | n + 1 => bM p n ++ [kI p (bM p n) n]
def St.plus (s z : St) : St := ⟨bB s.a z.a, bB s.b z.b, bB s.c z.c, bB s.d z.d, bB s.e z.e⟩
def dS (p : Nat -> UInt8) (s : St) : St := s.plus (gW (bM p 80) 80 s)
def St.init : St := ⟨1732584193, 4023233417, 2562383102, 271733878, 3285377520⟩
def bN (m : List UInt8) (k : Nat) : Nat -> UInt8 := fun t => m.getD (64 * k + t) 0
def gN (m : List UInt8) : Nat -> St
 | 0 => St.init
 | k + 1 => dS (bN m k) (gN m k)
def aX (v : Nat) : Nat -> List UInt8
 | 0 => []
 | n + 1 => (v >>> (8 * n)).toUInt8 :: aX v n
def oE (n : Nat) : Nat := (119 - n % 64) % 64
def gC (n : Nat) : List UInt8 := 128 :: (List.replicate (oE n) 0 ++ aX (8 * n) 8)
def St.text (s : St) : List UInt8 := aX s.a 4 ++ (aX s.b 4 ++ (aX s.c 4 ++ (aX s.d 4 ++ aX s.e 4)))
def Cn (m : List UInt8) : List UInt8 := (gN (m ++ gC m.length) ((m ++ gC m.length).length / 64)).text
theorem cB (x n : Nat) (h : x < 4294967296) (_hn : n <= 32) : bY x n < 4294967296 := by
 unfold bY
 refine Nat.or_lt_two_pow (n := 32) (Nat.mod_lt _ (by decide)) ?_
 rw [Nat.shiftRight_eq_div_pow]
 exact Nat.lt_of_le_of_lt (Nat.div_le_self _ _) h
theorem dU (x y : Nat) : bB x y < 4294967296 := Nat.mod_lt _ (by decide)
theorem Ri {x t : Nat} {s : St} (h : s.ok) : (Ak x t s).ok := ⟨dU _ _, h.1, cB _ _ h.2.1 (by decide), h.2.2.1, h.2.2.2.1⟩
theorem Al (l : List Nat) (n : Nat) {s : St} (h : s.ok) : (gW l n s).ok := by
 induction n with
 | zero => exact h
 | succ n ih => exact Ri ih
theorem Wc (s z : St) : (s.plus z).ok := ⟨dU _ _, dU _ _, dU _ _, dU _ _, dU _ _⟩
theorem Wd : St.init.ok := by unfold St.ok St.init; decide
theorem We (p : Nat -> UInt8) (s : St) : (dS p s).ok := Wc _ _
theorem wW (m : List UInt8) (k : Nat) : (gN m k).ok := by
 cases k with
 | zero => exact Wd
 | succ k => exact We _ _
theorem wA (x : UInt8) : x.toNat < 256 := x.toNat_lt
theorem Eb (p : Nat -> UInt8) (t : Nat) : mK p t < 4294967296 := by
 have h : ∀ (x : UInt8) (n : Nat), n <= 24 -> x.toNat <<< n < 2 ^ 32 := fun x n hn => by
  rw [Nat.shiftLeft_eq]
  have h1 : x.toNat < 256 := wA x
  have h2 : 2 ^ n <= 2 ^ 24 := Nat.pow_le_pow_right (by decide) hn
  calc x.toNat * 2 ^ n < 256 * 2 ^ n := Nat.mul_lt_mul_of_pos_right h1 (Nat.two_pow_pos n)
   _ <= 256 * 2 ^ 24 := Nat.mul_le_mul_left _ h2
   _ = 2 ^ 32 := by decide
 unfold mK
 refine Nat.or_lt_two_pow (n := 32) (Nat.or_lt_two_pow (Nat.or_lt_two_pow (h _ _ (by decide)) (h _ _ (by decide))) (h _ _ (by decide))) ?_
 have := wA (p (4 * t + 3))
 omega
theorem pL {l : List Nat} {B : Nat} (h : ∀ x ∈ l, x < B) (hB : 0 < B) (i : Nat) : l.getD i 0 < B := by
 by_cases hi : i < l.length
 ·rw [List.getD_eq_getElem?_getD, List.getElem?_eq_getElem hi]
  exact h _ (List.getElem_mem hi)
 ·rw [List.getD_eq_getElem?_getD, List.getElem?_eq_none (by omega)]
  exact hB
theorem Rj {p : Nat -> UInt8} {l : List Nat} (h : ∀ x ∈ l, x < 4294967296) (t : Nat) : kI p l t < 4294967296 := by
 unfold kI
 split
 ·exact Eb _ _
 ·have g := fun i => pL h (by decide) i
  exact cB _ _ (Nat.xor_lt_two_pow (n := 32) (Nat.xor_lt_two_pow (Nat.xor_lt_two_pow (g _) (g _)) (g _)) (g _)) (by decide)
theorem tI (p : Nat -> UInt8) (n : Nat) : ∀ x ∈ bM p n, x < 4294967296 := by
 induction n with
 | zero => intro x hx; cases hx
 | succ n ih =>
   intro x hx
   unfold bM at hx
   rcases List.mem_append.1 hx with h | h
   ·exact ih x h
   ·rw [List.mem_singleton.1 h]; exact Rj ih n
theorem bZ (p : Nat -> UInt8) (n : Nat) : (bM p n).length = n := by
 induction n with
 | zero => rfl
 | succ n ih => unfold bM; rw [List.length_append, ih]; rfl
theorem uA {p q : Nat -> UInt8} (h : ∀ t, t < 64 -> p t = q t) {n : Nat} (hn : n < 16) : mK p n = mK q n := by
 unfold mK
 rw [h _ (by omega), h _ (by omega), h _ (by omega), h _ (by omega)]
theorem Ec {p q : Nat -> UInt8} (h : ∀ t, t < 64 -> p t = q t) (l : List Nat) (n : Nat) : kI p l n = kI q l n := by
 unfold kI
 by_cases hn : n < 16
 ·rw [if_pos hn, if_pos hn, uA h hn]
 ·rw [if_neg hn, if_neg hn]
theorem iZ (p : Nat -> UInt8) (n : Nat) : bM p (n + 1) = bM p n ++ [kI p (bM p n) n] := rfl
theorem Co {p q : Nat -> UInt8} (h : ∀ t, t < 64 -> p t = q t) (n : Nat) : bM p n = bM q n := by
 induction n with
 | zero => rfl
 | succ n ih => rw [iZ, iZ, ih, Ec h]
theorem wX {p q : Nat -> UInt8} (h : ∀ t, t < 64 -> p t = q t) (s : St) : dS p s = dS q s := by unfold dS; rw [Co h]
theorem qM (m : List UInt8) (k : Nat) : gN m (k + 1) = dS (bN m k) (gN m k) := rfl
theorem Ed {m m' : List UInt8} (k : Nat) : (∀ i, i < 64 * k -> m.getD i 0 = m'.getD i 0) -> gN m k = gN m' k := by
 induction k with
 | zero => intro _; rfl
 | succ k ih =>
   intro h
   rw [qM, qM, ih (fun i hi => h i (by omega))]
   exact wX (fun t ht => h _ (by omega)) _
theorem wY (m s : List UInt8) (i : Nat) (h : i < m.length) : (m ++ s).getD i 0 = m.getD i 0 := by
 rw [List.getD_eq_getElem?_getD, List.getD_eq_getElem?_getD, List.getElem?_append_left h]
theorem Mj (m s : List UInt8) (i : Nat) (h : m.length <= i) : (m ++ s).getD i 0 = s.getD (i - m.length) 0 := by
 rw [List.getD_eq_getElem?_getD, List.getD_eq_getElem?_getD, List.getElem?_append_right h]
theorem Am (m s : List UInt8) (k : Nat) (h : 64 * k <= m.length) : gN (m ++ s) k = gN m k := Ed k fun i hi => wY m s i (by omega)
theorem cF (v n : Nat) : (aX v n).length = n := by
 induction n with
 | zero => rfl
 | succ n ih => unfold aX; rw [List.length_cons, ih]
theorem jZ (n : Nat) : oE n < 64 := Nat.mod_lt _ (by decide)
theorem jA (n : Nat) : (gC n).length = 9 + oE n := by unfold gC; rw [List.length_cons, List.length_append, List.length_replicate, cF]; omega
theorem qN (n : Nat) : (n + (gC n).length) % 64 = 0 := by rw [jA]; unfold oE; omega
theorem uB (s : St) : s.text.length = 20 := by unfold St.text; simp [cF]
theorem Ee (m : List UInt8) : (Cn m).length = 20 := uB _
set_option maxHeartbeats 800000
theorem bG {a b : Int} (h : a = b) : Ending.returned (.int .u32 a) = .returned (.int .u32 b) := by rw [h]
theorem rL {a b c d : Int} (h : a = b) (k : c = d) : Ending.returned (.tuple #[.int .u32 a, .int .u32 c]) = .returned (.tuple #[.int .u32 b, .int .u32 d]) := by rw [h, k]
theorem bK (x n p q : Nat) (P Q : Int) (hP : P = (p : Int)) (hQ : Q = (q : Int)) (hx : x < 4294967296) (hp : 2 ^ n = p) (hq : 2 ^ (32 - n) = q) :
  bits .or .u32 ((x : Int) * P % 4294967296) ((x : Int) / Q) = ((bY x n : Nat) : Int) := by
 rw [hP, hQ]
 have e1 : (x : Int) * (p : Int) % 4294967296 = ((x * p % 4294967296 : Nat) : Int) := by
  rw [<- Int.natCast_mul]
  generalize x * p = y
  omega
 have e2 : (x : Int) / (q : Int) = ((x / q : Nat) : Int) := (Int.natCast_ediv x q).symm
 rw [e1, e2, u32_or_nat _ _ (Nat.mod_lt _ (by decide)) (Nat.lt_of_le_of_lt (Nat.div_le_self _ _) hx)]
 unfold bY
 rw [Nat.shiftLeft_eq, Nat.shiftRight_eq_div_pow, hp, hq]
theorem rM (b : Nat) (hb : b < 4294967296) : bits .xor .u32 IntKind.u32.max (b : Int) = ((4294967295 ^^^ b : Nat) : Int) := u32_xor_nat 4294967295 b (by decide) hb
theorem wU (b : UInt8) (n p : Nat) (P : Int) (hP : P = (p : Int)) (hp : 2 ^ n = p) (hn : n <= 24) : (b.toNat : Int) % 4294967296 * P % 4294967296 = ((b.toNat <<< n : Nat) : Int) /\ b.toNat <<< n < 4294967296 := by
 have hb := wA b
 have h2 : p <= 16777216 := by rw [<- hp]; exact (Nat.pow_le_pow_right (n := 2) (by decide) hn : 2 ^ n <= 2 ^ 24)
 have h3 : b.toNat * p < 4294967296 := by
  have h4 : b.toNat * p <= 255 * p := Nat.mul_le_mul_right _ (by omega)
  omega
 have e : (b.toNat : Int) % 4294967296 = (b.toNat : Int) := by omega
 rw [e, hP, <- Int.natCast_mul, Nat.shiftLeft_eq, hp]
 generalize b.toNat * p = y at *
 omega
theorem tH (b0 b1 b2 b3 : UInt8) :
  bits .or .u32 (bits .or .u32 (bits .or .u32 ((b0.toNat : Int) % 4294967296 * 16777216 % 4294967296) ((b1.toNat : Int) % 4294967296 * 65536 % 4294967296)) ((b2.toNat : Int) % 4294967296 * 256 % 4294967296)) ((b3.toNat : Int) % 4294967296)
   = ((((b0.toNat <<< 24 ||| b1.toNat <<< 16) ||| b2.toNat <<< 8) ||| b3.toNat : Nat) : Int) := by
 obtain ⟨e0, l0⟩ := wU b0 24 16777216 16777216 rfl (by decide) (by decide)
 obtain ⟨e1, l1⟩ := wU b1 16 65536 65536 rfl (by decide) (by decide)
 obtain ⟨e2, l2⟩ := wU b2 8 256 256 rfl (by decide) (by decide)
 have l3 : b3.toNat < 4294967296 := by have := wA b3; omega
 have e3 : (b3.toNat : Int) % 4294967296 = (b3.toNat : Int) := by omega
 have g1 : b0.toNat <<< 24 ||| b1.toNat <<< 16 < 4294967296 := Nat.or_lt_two_pow (n := 32) l0 l1
 rw [e0, e1, e2, e3, u32_or_nat _ _ l0 l1, u32_or_nat _ _ g1 l2, u32_or_nat _ _ (Nat.or_lt_two_pow (n := 32) g1 l2) l3]
theorem Wb (x n : Nat) (w : World) (hx : x < 4294967296) (hn : n = 1 \/ n = 5 \/ n = 30) :
  Calls Tryz.prog 207 #[.int .u32 x, .int .i64 n] w fun e w' => e = .returned (.int .u32 (bY x n)) /\ w = w' := by
 rcases hn with rfl | rfl | rfl
 ·have hb : bits .and .u64 1 31 = 1 := by decide +kernel
  go_enter Tryz.func207, Tryz.ntmps207
  go_wp2
  go_ret
  exact ⟨bG (bK x 1 2 2147483648 2 2147483648 rfl rfl hx rfl rfl), rfl⟩
 ·have hb : bits .and .u64 5 31 = 5 := by decide +kernel
  go_enter Tryz.func207, Tryz.ntmps207
  go_wp2
  go_ret
  exact ⟨bG (bK x 5 32 134217728 32 134217728 rfl rfl hx rfl rfl), rfl⟩
 ·have hb : bits .and .u64 30 31 = 30 := by decide +kernel
  go_enter Tryz.func207, Tryz.ntmps207
  go_wp2
  go_ret
  exact ⟨bG (bK x 30 1073741824 4 1073741824 4 rfl rfl hx rfl rfl), rfl⟩
theorem wV (x n : Nat) (w : World) (hx : x < 4294967296) (hn : n = 1 \/ n = 5 \/ n = 30) :
  Calls Tryz.prog 73 #[.int .u32 x, .int .i64 n] w fun e w' => e = .returned (.int .u32 (bY x n)) /\ ∃ d, w' = w.drewN d := by
 rcases hn with rfl | rfl | rfl
 ·go_enter Tryz.func73, Tryz.ntmps73
  go_wp2_with fail
  go_quiet (fail)
  go_wp2
  go_ret
  exact ⟨bG (bK x 1 2 2147483648 2 2147483648 rfl rfl hx rfl rfl), _, rfl⟩
 ·go_enter Tryz.func73, Tryz.ntmps73
  go_wp2_with fail
  go_quiet (fail)
  go_wp2
  go_ret
  exact ⟨bG (bK x 5 32 134217728 32 134217728 rfl rfl hx rfl rfl), _, rfl⟩
 ·go_enter Tryz.func73, Tryz.ntmps73
  go_wp2_with fail
  go_quiet (fail)
  go_wp2
  go_ret
  exact ⟨bG (bK x 30 1073741824 4 1073741824 4 rfl rfl hx rfl rfl), _, rfl⟩
theorem Ho (t b c d : Nat) (w : World) (hb : b < 4294967296) (hc : c < 4294967296) (hd : d < 4294967296) :
  Calls Tryz.prog 206 #[.int .i64 t, .int .u32 b, .int .u32 c, .int .u32 d] w fun e w' => e = .returned (.tuple #[.int .u32 (jQ t b c d), .int .u32 (pX t)]) /\ w = w' := by
 have hx : bits .xor .u32 (bits .xor .u32 (b : Int) (c : Int)) (d : Int) = ((b ^^^ c ^^^ d : Nat) : Int) := by
  rw [u32_xor_nat b c hb hc, u32_xor_nat _ d (Nat.xor_lt_two_pow (n := 32) hb hc) hd]
 have ha : bits .or .u32 (bits .and .u32 (b : Int) (c : Int)) (bits .and .u32 (bits .xor .u32 IntKind.u32.max (b : Int)) (d : Int)) = (((b &&& c) ||| ((4294967295 ^^^ b) &&& d) : Nat) : Int) := by
  rw [u32_and_nat b c hb hc, rM b hb, u32_and_nat _ d (Nat.xor_lt_two_pow (n := 32) (by decide) hb) hd, u32_or_nat _ _ (Nat.and_lt_two_pow (n := 32) _ hc) (Nat.and_lt_two_pow (n := 32) _ hd)]
 have hm : bits .or .u32 (bits .or .u32 (bits .and .u32 (b : Int) (c : Int)) (bits .and .u32 (b : Int) (d : Int))) (bits .and .u32 (c : Int) (d : Int)) = ((((b &&& c) ||| (b &&& d)) ||| (c &&& d) : Nat) : Int) := by
  have g1 : b &&& c < 4294967296 := Nat.and_lt_two_pow (n := 32) _ hc
  have g2 : b &&& d < 4294967296 := Nat.and_lt_two_pow (n := 32) _ hd
  have g3 : c &&& d < 4294967296 := Nat.and_lt_two_pow (n := 32) _ hd
  rw [u32_and_nat b c hb hc, u32_and_nat b d hb hd, u32_and_nat c d hc hd, u32_or_nat _ _ g1 g2, u32_or_nat _ _ (Nat.or_lt_two_pow (n := 32) g1 g2) g3]
 have HX := Lib.hid hx
 have HA := Lib.hid ha
 have HM := Lib.hid hm
 clear hx ha hm hb hc hd
 by_cases h1 : t < 20
 ·have HP : Hid (jQ t b c d = _ /\ pX t = _) := Lib.hid ⟨by unfold jQ; rw [if_pos h1], by unfold pX; rw [if_pos h1]⟩
  go_enter Tryz.func206, Tryz.ntmps206
  go_wp2
  go_ret2
  exact ⟨rL (HA.out.trans (congrArg Int.ofNat HP.out.1.symm)) (congrArg Int.ofNat HP.out.2.symm), rfl⟩
 ·by_cases h2 : t < 40
  ·have HP : Hid (jQ t b c d = _ /\ pX t = _) := Lib.hid ⟨by unfold jQ; rw [if_neg h1, if_pos h2], by unfold pX; rw [if_neg h1, if_pos h2]⟩
   go_enter Tryz.func206, Tryz.ntmps206
   go_wp2
   go_ret2
   exact ⟨rL (HX.out.trans (congrArg Int.ofNat HP.out.1.symm)) (congrArg Int.ofNat HP.out.2.symm), rfl⟩
  ·by_cases h3 : t < 60
   ·have HP : Hid (jQ t b c d = _ /\ pX t = _) := Lib.hid ⟨by unfold jQ; rw [if_neg h1, if_neg h2, if_pos h3], by unfold pX; rw [if_neg h1, if_neg h2, if_pos h3]⟩
    go_enter Tryz.func206, Tryz.ntmps206
    go_wp2
    go_ret2
    exact ⟨rL (HM.out.trans (congrArg Int.ofNat HP.out.1.symm)) (congrArg Int.ofNat HP.out.2.symm), rfl⟩
   ·have HP : Hid (jQ t b c d = _ /\ pX t = _) := Lib.hid ⟨by unfold jQ; rw [if_neg h1, if_neg h2, if_neg h3], by unfold pX; rw [if_neg h1, if_neg h2, if_neg h3]⟩
    go_enter Tryz.func206, Tryz.ntmps206
    go_wp2
    go_ret2
    exact ⟨rL (HX.out.trans (congrArg Int.ofNat HP.out.1.symm)) (congrArg Int.ofNat HP.out.2.symm), rfl⟩
theorem gL (s : ByteArray) (i : Nat) (h : i < s.size) : s.data.toList.getD i 0 = s[i] := by
 rw [List.getD_eq_getElem?_getD, List.getElem?_eq_getElem (by rw [<- Lib.size_eq]; exact h)]
 rfl
theorem Ea (s : ByteArray) (w : World) (hs : s.size = 4) :
  Calls Tryz.prog 72 #[.string s] w fun e w' => e = .returned (.int .u32 (mK (fun t => s.data.toList.getD t 0) 0)) /\ ∃ d, w' = w.drewN d := by
 have h0 : 0 < s.size := by omega
 have h1 : 1 < s.size := by omega
 have h2 : 2 < s.size := by omega
 have h3 : 3 < s.size := by omega
 have HW : Hid (mK (fun t => s.data.toList.getD t 0) 0 = ((s[0].toNat <<< 24 ||| s[1].toNat <<< 16) ||| s[2].toNat <<< 8) ||| s[3].toNat) := Lib.hid (by
  rw [<- gL s 0 h0, <- gL s 1 h1, <- gL s 2 h2, <- gL s 3 h3]
  rfl)
 go_enter Tryz.func72, Tryz.ntmps72
 go_wp2_with fail
 go_quiet (fail)
 go_wp2
 go_ret
 exact ⟨bG ((tH _ _ _ _).trans (congrArg Int.ofNat HW.out.symm)), _, rfl⟩
set_option maxHeartbeats 400000
theorem iL : (Tryz.prog.info? 5).map (fun i => (i.zero, i.size, i.bytes)) = some (some (.int .u8 0), 1, 1) := by kernel_rfl
def aY (n : Nat) : ByteArray := ⟨(List.replicate n 0).toArray⟩
theorem mZ (n : Nat) : (aY n).data.toList = List.replicate n 0 := rfl
theorem gD (n : Nat) : (aY n).size = n := by show (List.replicate n (0 : UInt8)).toArray.size = n; simp
theorem Hq (w : World) (n : Nat) (h1 : n <= 70000) :
  (Instr.makeSlice 79 (.int .i64 n) (.int .i64 n)).run Tryz.prog w = .ok (.slice (some ⟨w.heap.size, 0, none⟩) n n) (w.alloc (.cells (Lib.byteCells (aY n).data.toList).toArray 5)) := by
 obtain ⟨i0, hi, hz0, hz1, hz2⟩ := info_parts iL
 have hr := run_makeSlice (P := Tryz.prog) w 79 5 i0 (.int .u8 0) Tryz.underlying79 hi hz0 .i64 .i64 n n (by omega) (Int.le_refl _) (by rw [hz1]; omega) (by rw [hz2]; omega) (by omega)
 have hc : madeCells (Value.int .u8 0).cells ((n : Int).toNat * i0.size) = (Lib.byteCells (aY n).data.toList).toArray := by
  rw [hz1, Nat.mul_one, mZ]
  refine Array.toList_inj.1 ?_
  rw [show (Value.int .u8 0).cells = #[Value.int .u8 0] from rfl, toList_madeCells_one]
  simp [Lib.byteCells]
 rw [hc] at hr
 exact hr
theorem zP (w : World) (n : Nat) :
  (convert 79 9 (.slice (some ⟨w.heap.size, 0, none⟩) n n)).run Tryz.prog (w.alloc (.cells (Lib.byteCells (aY n).data.toList).toArray 5)) = .ok (.string (aY n)) (w.alloc (.cells (Lib.byteCells (aY n).data.toList).toArray 5)) := by
 have hl : (aY n).data.toList.length = n := by rw [mZ, List.length_replicate]
 have hr := run_convert_bytes_back (P := Tryz.prog) (w.alloc (.cells (Lib.byteCells (aY n).data.toList).toArray 5)) 79 9 5 ⟨w.heap.size, 0, none⟩ (aY n).data.toList.length (aY n).data.toList Tryz.underlying79 Tryz.underlying5 Tryz.underlying9
  (fun j hj => by
   rw [Go.WideShapes.add_plain, (aG.new w 5 (Lib.byteCells (aY n).data.toList).toArray).cell (0 + j)]
   simp [Lib.byteCells]
   exact ⟨(aY n).data[j]'(by simpa using hj), Array.getElem?_eq_getElem (by simpa using hj), rfl⟩)
 rw [hl] at hr
 exact hr
theorem Ao (n : Nat) (w : World) (h : n <= 70000) :
  Calls Tryz.prog 39 #[.int .i64 n] w fun e w' => e = .returned (.string (aY n)) /\ Below w.heap.size w w' := by
 have hmk := Hq w n h
 have hcv := zP w n
 go_enter Tryz.func39, Tryz.ntmps39
 go_wp2_with fail
 go_ret
 exact ⟨rfl, (Below.refl _ _).alloc (Nat.le_refl _) _⟩
theorem rN (w : World) (base g cap : Nat) (l : List UInt8) (n : Nat) (hn : l.length = n) (h : w.ownsRow base 5 1 (.slice (some ⟨g, 0, none⟩) n cap) n (Lib.byteCells l)) :
  (convert 79 9 (.slice (some ⟨g, 0, none⟩) n cap)).run Tryz.prog w = .ok (.string ⟨l.toArray⟩) w := by
 have hcv := run_convert_bytes_back (P := Tryz.prog) w 79 9 5 ⟨g, 0, none⟩ cap l Tryz.underlying79 Tryz.underlying5 Tryz.underlying9
  (fun i hi => h.cells (g := g) rfl i _ (by simp [Lib.byteCells, List.getElem?_eq_getElem hi]))
 rw [hn] at hcv
 exact hcv
end Go.Proofs.YtingkbeifohihaaGreatDoor
