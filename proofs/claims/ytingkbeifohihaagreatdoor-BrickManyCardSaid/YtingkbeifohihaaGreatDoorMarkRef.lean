/-
  The document's Size of a kind (package masonryref1); a print of texts is one that may be.
-/
import Derived.Test.YtingkbeifohihaaGreatDoorRegionApp
import Derived.Test.YtingkbeifohihaaGreatDoorMarkSmall
import Derived.Test.YtingkbeifohihaaGreatDoorOuts
import Derived.Test.YtingkbeifohihaaGreatDoorOut
namespace Go.Proofs.YtingkbeifohihaaGreatDoor
open Go.RowKit
structure cP (T : TypeId) (w w' : World) : Prop where
 block : ∀ (k : Nat) (t : TypeId) (cs : Array Value) (fr : Nat × Nat), w.heap[k]? = some (.cells cs t fr) -> t ≠ T -> w'.heap[k]? = some (.cells cs t fr)
theorem cP.of_none {T : TypeId} {w w' : World} (h : w.grownBy w' none) : cP T w w' :=
 ⟨fun k t cs fr hk _ => by
  have hlt : k < w.heap.size := by
   rcases Nat.lt_or_ge k w.heap.size with h1 | h1
   ·exact h1
   ·rw [Array.getElem?_eq_none h1] at hk; cases hk
  rw [h.block k hlt (by simp)]
  exact hk⟩
theorem cP.of_by {T : TypeId} {w w' : World} {g : Nat} {cs : Array Value} (h : w.grownBy w' (some g)) (hb : aG w g T cs) : cP T w w' :=
 ⟨fun k t c fr hk ht => by
  have hlt : k < w.heap.size := by
   rcases Nat.lt_or_ge k w.heap.size with h1 | h1
   ·exact h1
   ·rw [Array.getElem?_eq_none h1] at hk; cases hk
  rw [h.block k hlt (fun e => ?_)]
  ·exact hk
  ·have e : k = g := by simpa using e
   subst e
   unfold aG at hb
   rw [hk] at hb
   injection hb with hb
   injection hb with _ h2 _
   exact ht h2⟩
theorem aG.grownT {T : TypeId} {w w' : World} {b : Nat} {t : TypeId} {cs : Array Value} (h : aG w b t cs) (hg : cP T w w') (ht : t ≠ T) : aG w' b t cs := hg.block b t cs (0, 0) h ht
def mB (a : Act) (n : Nat) (D : Nat -> Option Nat) (x : Act) : Prop := x.defers = a.defers /\ x.tmps.size = a.tmps.size /\ ∀ s, (∀ i, i < n -> D i ≠ some s) -> x.tmps[s]? = a.tmps[s]?
def gG (x : Act) : Option Nat -> Value
 | some s => x.tmps[s]?.getD undef
 | none => undef
theorem dW {P : Program} {ops : Array Oper} {Q : Exit -> Act -> World -> Prop} {id : Nat} {a : Act} {w : World} (T : TypeId) (k : Nat) (D : Nat -> Option Nat) (N : Nat) (ci : Nat -> Nat) (F : Nat -> Value -> World -> Prop) (Ch : Nat -> Value -> World -> Prop)
  (hm : P.follows .mixedOrders = true) (he : nU .any ops = true) (hk : ops.size = k)
  (hinj : ∀ i j s, i < k -> j < k -> D i = some s -> D j = some s -> i = j) (hlt : ∀ i s, i < k -> D i = some s -> s < a.tmps.size)
  (hci : ∀ n, n < N -> ci n < k) (hcinj : ∀ n m, n < N -> m < N -> ci n = ci m -> n = m) (hcw : ∀ n, n + 1 < N -> ci n ∈ aQ .any ops (ci (n + 1)))
  (hF : ∀ i v w w', F i v w -> cP T w w' -> F i v w') (hC : ∀ n v w w', Ch n v w -> w.grownBy w' none -> Ch n v w') (h0 : Ch 0 undef w.drew)
  (hloose : ∀ i, i < k -> (∀ n, n < N -> ci n ≠ i) -> ∀ (x : Act) (w' : World), mB a k D x -> (∀ j ∈ aQ .any ops i, F j (gG x (D j)) w') -> (∃ n v, n <= N /\ Ch n v w') -> wpOp P ops Q i (fun x' w'' => ∃ v, x' = x.put (D i) v /\ (D i = none -> v = undef) /\ w'.grownBy w'' none /\ F i v w'') x w')
  (hchain : ∀ n, n < N -> ∀ (x : Act) (w' : World), mB a k D x -> (∀ j ∈ aQ .any ops (ci n), F j (gG x (D j)) w') -> Ch n (if n = 0 then undef else gG x (D (ci (n - 1)))) w' -> wpOp P ops Q (ci n) (fun x' w'' => ∃ v, x' = x.put (D (ci n)) v /\ (D (ci n) = none -> v = undef) /\ cP T w' w'' /\ Ch (n + 1) v w'' /\ F (ci n) v w'') x w')
  (hK : ∀ (x : Act) (w' : World), mB a k D x -> (∀ i, i < k -> F i (gG x (D i)) w') -> Ch N (if N = 0 then undef else gG x (D (ci (N - 1)))) w' -> Q .normal x w') : (Code.region id ops true).wp P Q a w := by
 subst hk
 have key : ∀ (x : Act) (i j : Nat) (v : Value), i < ops.size -> j < ops.size -> i ≠ j -> gG (x.put (D i) v) (D j) = gG x (D j) := by
  intro x i j v hi hj hij
  cases h1 : D i with
  | none => rfl
  | some s =>
    cases h2 : D j with
    | none => rfl
    | some t => exact fN x s t v (fun e => hij (hinj i j s hi hj h1 (by rw [h2, e])))
 have here : ∀ (x : Act) (i : Nat) (v : Value), i < ops.size -> mB a ops.size D x -> (D i = none -> v = undef) -> gG (x.put (D i) v) (D i) = v := by
  intro x i v hi hf hn
  cases h1 : D i with
  | none => rw [hn h1]; rfl
  | some s => exact kK x s v (by rw [hf.2.1]; exact hlt i s hi h1)
 have fput : ∀ (x : Act) (i : Nat) (v : Value), i < ops.size -> mB a ops.size D x -> mB a ops.size D (x.put (D i) v) := by
  intro x i v hi ⟨h1, h2, h3⟩
  cases h4 : D i with
  | none => exact ⟨h1, h2, h3⟩
  | some t =>
    refine ⟨h1, by simp [Act.put, h2], fun s hs => ?_⟩
    rw [<- h3 s hs]
    simp only [Act.put]
    exact Array.getElem?_setIfInBounds_ne (fun e => hs i hi (by rw [h4, e]))
 refine cJ (fun L x w => mB a ops.size D x /\ (∀ i, i < ops.size -> L i = true -> F i (gG x (D i)) w) /\ ∃ n, n <= N /\ (∀ m, m < N -> (L (ci m) = true ↔ m < n)) /\ Ch n (if n = 0 then undef else gG x (D (ci (n - 1)))) w) hm he ?_ ?_ ?_
 ·exact ⟨⟨rfl, rfl, fun _ _ => rfl⟩, fun _ _ h => (by cases h), 0, Nat.zero_le _, fun m _ => by simp, h0⟩
 ·intro L x w' i ⟨hf, hv, n, hn, hL, hch⟩ hi hLi hw
  have hww : ∀ j ∈ aQ .any ops i, F j (gG x (D j)) w' := fun j hj => by
   have hlt := List.all_eq_true.1 (List.all_eq_true.1 he i (List.mem_range.2 hi)) j hj
   have : j < i := by simpa using hlt
   exact hv j (by omega) (hw j hj)
  by_cases hic : ∃ m, m < N /\ ci m = i
  ·obtain ⟨m, hmN, rfl⟩ := hic
   have hnm : n = m := by
    have h1 : ¬ m < n := fun h => by rw [(hL m hmN).2 h] at hLi; cases hLi
    rcases Nat.lt_or_ge n m with h2 | h2
    ·have h3 := hcw (m - 1) (by omega)
     rw [show m - 1 + 1 = m by omega] at h3
     have := (hL (m - 1) (by omega)).1 (hw _ h3)
     omega
    ·omega
   subst hnm
   refine wpOp_mono (fun x' w'' h => ?_) (hchain n hmN x w' hf hww hch)
   obtain ⟨v, rfl, hnn, hg, hch', hfv⟩ := h
   refine ⟨fput x _ v hi hf, fun j hj hLj => ?_, n + 1, hmN, fun m hm' => ?_, ?_⟩
   ·by_cases hij : ci n = j
    ·subst hij
     rw [here x _ v hj hf hnn]
     exact hfv
    ·simp only [if_neg hij] at hLj
     rw [key x _ j v hi hj hij]
     exact hF j _ _ _ (hv j hj hLj) hg
   ·by_cases hmn : m = n
    ·subst hmn; simp
    ·have : ci n ≠ ci m := fun e => hmn (hcinj m n hm' hmN e.symm)
     simp only [if_neg this]
     rw [hL m hm']
     omega
   ·rw [if_neg (by omega), show n + 1 - 1 = n by omega, here x _ v hi hf hnn]
    exact hch'
  ·have hic' : ∀ m, m < N -> ci m ≠ i := fun m hm e => hic ⟨m, hm, e⟩
   refine wpOp_mono (fun x' w'' h => ?_) (hloose i hi hic' x w' hf hww ⟨n, _, hn, hch⟩)
   obtain ⟨v, rfl, hnn, hg, hfv⟩ := h
   refine ⟨fput x _ v hi hf, fun j hj hLj => ?_, n, hn, fun m hm' => ?_, ?_⟩
   ·by_cases hij : i = j
    ·subst hij
     rw [here x _ v hj hf hnn]
     exact hfv
    ·simp only [if_neg hij] at hLj
     rw [key x _ j v hi hj hij]
     exact hF j _ _ _ (hv j hj hLj) (cP.of_none hg)
   ·have : i ≠ ci m := fun e => hic' m hm' e.symm
    simp only [if_neg this]
    exact hL m hm'
   ·by_cases hn0 : n = 0
    ·rw [if_pos hn0] at hch ⊢
     exact hC _ _ _ _ hch hg
    ·rw [if_neg hn0] at hch ⊢
     rw [key x i _ v hi (hci _ (by omega)) (fun e => hic' (n - 1) (by omega) e.symm)]
     exact hC _ _ _ _ hch hg
 ·intro L x w' ⟨hf, hv, n, hn, hL, hch⟩ hall
  have hnN : n = N := by
   rcases Nat.lt_or_ge n N with h | h
   ·have := (hL n h).1 (hall _ (hci n h)); omega
   ·omega
  subst hnN
  exact hK x w' hf (fun i hi => hv i hi (hall i hi)) hch
theorem vP {P : Program} {ops : Array Oper} {Q : Exit -> Act -> World -> Prop} {id : Nat} {a : Act} {w : World} (T : TypeId) (k : Nat) (D : Nat -> Option Nat) (N : Nat) (ci : Nat -> Nat) (F : Nat -> Value -> World -> Prop) (Ch : Nat -> Value -> World -> Prop)
  (hm : P.follows .mixedOrders = true) (he : nU .any ops = true) (hk : ops.size = k)
  (hinj : ∀ i j s, i < k -> j < k -> D i = some s -> D j = some s -> i = j) (hlt : ∀ i s, i < k -> D i = some s -> s < a.tmps.size)
  (hci : ∀ n, n < N -> ci n < k) (hcinj : ∀ n m, n < N -> m < N -> ci n = ci m -> n = m) (hcw : ∀ n, n + 1 < N -> ci n ∈ aQ .any ops (ci (n + 1)))
  (hF : ∀ i v w w', F i v w -> cP T w w' -> F i v w') (hC : ∀ n v w w', Ch n v w -> w.grownBy w' none -> Ch n v w') (h0 : Ch 0 undef w.drew)
  (hloose : ∀ i, i < k -> (∀ n, n < N -> ci n ≠ i) -> ∀ (x : Act) (w' : World), mB a k D x -> (∀ j ∈ aQ .any ops i, F j (gG x (D j)) w') -> (∃ n v, n <= N /\ Ch n v w') -> wpOp P ops Q i (fun x' w'' => ∃ v, x' = x.put (D i) v /\ (D i = none -> v = undef) /\ w'.grownBy w'' none /\ F i v w'') x w')
  (hchain : ∀ n, n < N -> ∀ (x : Act) (w' : World), mB a k D x -> (∀ j ∈ aQ .any ops (ci n), F j (gG x (D j)) w') -> Ch n (if n = 0 then undef else gG x (D (ci (n - 1)))) w' -> wpOp P ops Q (ci n) (fun x' w'' => ∃ v, x' = x.put (D (ci n)) v /\ (D (ci n) = none -> v = undef) /\ cP T w' w'' /\ Ch (n + 1) v w'' /\ F (ci n) v w'') x w')
  (hK : ∀ (x : Act) (w' : World), mB a k D x -> (∀ i, i < k -> F i (gG x (D i)) w') -> (∃ v, Ch N v w') -> Q .normal x w') : (Code.region id ops true).wp P Q a w :=
 dW T k D N ci F Ch hm he hk hinj hlt hci hcinj hcw hF hC h0 hloose hchain (fun x w' h1 h2 h3 => hK x w' h1 h2 ⟨_, h3⟩)
theorem pN {l : List Nat} (h : l.Nodup) (i j s : Nat) (h1 : l[i]? = some s) (h2 : l[j]? = some s) : i = j := by
 have hi : i < l.length := by
  rcases Nat.lt_or_ge i l.length with h' | h'
  ·exact h'
  ·rw [List.getElem?_eq_none h'] at h1; cases h1
 exact (List.getElem?_inj hi h).1 (h1.trans h2.symm)
set_option maxRecDepth 100000
set_option maxHeartbeats 4000000
def pZ (k : Int) (s : ByteArray) : List UInt8 := k.toNat.toUInt8 :: (s.data.toList ++ List.replicate (32 - s.size) 0)
def Wl (k : Int) (s : ByteArray) : Value := if kG k s = true then .tuple #[.string ⟨(pZ k s).toArray⟩, .int .i64 0] else .tuple #[.string .empty, .int .i64 1]
theorem Sb {w : World} {b : Nat} {k : Int} (h : aG w b 3 #[.int .i64 k]) : dZ w w.heap.size (some ⟨b, 0, none⟩) [k] := by
 intro _
 refine ⟨b, 0, rfl, h.lt, fun j x hx => ?_⟩
 match j, hx with
 | 0, hx =>
   obtain rfl : k = x := by simpa using hx
   exact h.cell 0
theorem Sc {w : World} {b : Nat} {s : ByteArray} (h : aG w b 9 #[.string s]) : dL w w.heap.size (some ⟨b, 0, none⟩) [s] := by
 intro _
 refine ⟨b, 0, rfl, h.lt, fun j x hx => ?_⟩
 match j, hx with
 | 0, hx =>
   obtain rfl : s = x := by simpa using hx
   exact h.cell 0
theorem bF.grownT {w w' : World} {o : Nat} {s : Wr} (h : bF w o s) (hg : w.grownBy w' (some o)) : cP 149 w w' := by
 obtain ⟨p, r, hb, _⟩ := h
 exact cP.of_by hg hb
theorem bF.kept {w w' : World} {o : Nat} {s : Wr} (h : bF w o s) (hg : w.grownBy w' none) : bF w' o s := h.below (fH hg)
def qD (k : Int) (s : ByteArray) : Nat -> Wr
 | 0 | 1 => ⟨[], 0⟩
 | 2 => Wr.nums ⟨[], 0⟩ 1 [k]
 | 3 => (Wr.nums ⟨[], 0⟩ 1 [k]).raws [s]
 | _ => ((Wr.nums ⟨[], 0⟩ 1 [k]).raws [s]).pad 33
theorem Bd {k : Int} (s : ByteArray) (h0 : 0 <= k) (h1 : k < 256) : qD k s 2 = ⟨[k.toNat.toUInt8], 0⟩ := by
 show Wr.nums ⟨[], 0⟩ 1 [k] = _
 unfold Wr.nums
 have hf : cO 1 [k] = true := by
  unfold cO
  rw [List.all_cons, (fR 1 k).2 ⟨h0, by simpa using h1⟩]
  rfl
 rw [if_pos hf]
 unfold Wr.lay
 simp [aO, aD]
theorem uM {k : Int} (s : ByteArray) (h0 : 0 <= k) (h1 : k < 256) : qD k s 3 = ⟨k.toNat.toUInt8 :: s.data.toList, 0⟩ := by
 show Wr.raws (qD k s 2) [s] = _
 rw [Bd s h0 h1]
 unfold Wr.raws Wr.lay
 simp
theorem Ic {k : Int} {s : ByteArray} (h0 : 0 <= k) (h1 : k < 256) (hs : s.size <= 32) : qD k s 4 = ⟨pZ k s, 0⟩ := by
 show Wr.pad (qD k s 3) 33 = _
 rw [uM s h0 h1]
 have hl : (k.toNat.toUInt8 :: s.data.toList).length = s.size + 1 := by rw [List.length_cons, <- Lib.size_eq]
 unfold Wr.pad
 rw [if_neg (by omega), if_neg (by simp only [hl]; omega)]
 unfold Wr.lay pZ
 simp only [hl, if_true, List.cons_append]
 congr 4
 omega
def Wm (i : Nat) : Option Nat := [7, 8, 9, 10, 11, 12, 13, 14, 15, 16, 17, 18, 19, 2, 3][i]?
theorem Sd (i j s : Nat) (_ : i < 15) (_ : j < 15) (h1 : Wm i = some s) (h2 : Wm j = some s) : i = j := pN (by decide) i j s h1 h2
theorem Wn (i s : Nat) (_ : i < 15) (h : Wm i = some s) : s < 20 := (by decide : ∀ x ∈ [7, 8, 9, 10, 11, 12, 13, 14, 15, 16, 17, 18, 19, 2, 3], x < 20) s (List.mem_of_getElem? h)
def Nh (n : Nat) : Nat := [0, 4, 8, 9, 10].getD n 0
theorem Se (i j : Nat) (hi : i < 5) (hj : j < 5) (h : Nh i = Nh j) : i = j := (by decide : ∀ i, i < 5 -> ∀ j, j < 5 -> Nh i = Nh j -> i = j) i hi j hj h
theorem Wo : ∀ i, i < 5 -> Nh i < 15 := by decide
def Wp (B : Nat) (k : Int) (s T : ByteArray) : Nat -> Value -> World -> Prop
 | 1, v, _ => v = .pointer (some ⟨B, 0, none⟩)
 | 2, v, _ => v = .int .i64 k
 | 3, v, w => ∃ b, v = .slice (some ⟨b, 0, none⟩) 1 1 /\ aG w b 3 #[.int .i64 k]
 | 5, v, _ => v = .pointer (some ⟨B, 1, none⟩)
 | 6, v, _ => v = .string s
 | 7, v, w => ∃ b, v = .slice (some ⟨b, 0, none⟩) 1 1 /\ aG w b 9 #[.string s]
 | 10, v, _ => v = .tuple #[.string T, .int .i64 0]
 | 11, v, _ => v = .string T
 | 12, v, _ => v = .int .i64 0
 | 13, v, _ => v = .string T
 | 14, v, _ => v = .int .i64 0
 | _, _, _ => True
def Be (W0 : World) (k : Int) (s : ByteArray) : Nat -> Value -> World -> Prop
 | 0, _, w => Below W0.heap.size W0 w
 | 5, _, w => Below W0.heap.size W0 w
 | n, v, w => Below W0.heap.size W0 w /\ ∃ g, v = .pointer (some ⟨g, 0, none⟩) /\ W0.heap.size <= g /\ bF w g (qD k s n)
theorem uN {W0 : World} {k : Int} {s : ByteArray} {n : Nat} {v : Value} {w : World} (h : Be W0 k s n v w) : Below W0.heap.size W0 w := by
 unfold Be at h
 split at h
 ·exact h
 ·exact h
 ·exact h.1
theorem Ie {B : Nat} {w w' w'' : World} (h : Below B w w') (hg : w'.grownBy w'' none) (hB : B <= w'.heap.size) : Below B w w'' := h.trans ((fH hg).mono hB)
theorem Ig {W0 : World} {k : Int} {s : ByteArray} (n : Nat) (v : Value) (w w' : World) (h : Be W0 k s n v w) (hg : w.grownBy w' none) : Be W0 k s n v w' := by
 have hb := uN h
 have hb' := Ie hb hg hb.size
 unfold Be at h ⊢
 split at h
 ·exact hb'
 ·exact hb'
 ·obtain ⟨_, g, hv, hW, ho⟩ := h
  exact ⟨hb', g, hv, hW, ho.kept hg⟩
theorem Ni {B : Nat} {k : Int} {s T : ByteArray} (i : Nat) (v : Value) (w w' : World) (h : Wp B k s T i v w) (hg : cP 149 w w') : Wp B k s T i v w' := by
 unfold Wp at h ⊢
 split at h <;> first
  | exact h
  | (obtain ⟨b, hv, hb⟩ := h; exact ⟨b, hv, hb.grownT hg (by decide)⟩)
  | trivial
theorem Nj (k : Int) (s : ByteArray) (w : World) (h0 : 0 <= k) (h1 : k < 256) (hs : s.size <= 32) (hv : kG k s = true) :
  Calls Tryz.prog 60 #[.agg #[.int .i64 k, .string s]] w fun e w' => e = .returned (.tuple #[.string ⟨(pZ k s).toArray⟩, .int .i64 0]) /\ Below w.heap.size w w' := by
 have HV : Hid (∀ w, Calls Tryz.prog 103 #[.agg #[.int .i64 k, .string s]] w fun e w' => e = .returned (.bool true) /\ Below w.heap.size w w') := Lib.hid (fun w => by have := Ag k s w; rwa [hv] at this)
 obtain ⟨T, hT⟩ : ∃ T : ByteArray, T = ⟨(pZ k s).toArray⟩ := ⟨_, rfl⟩
 rw [<- hT]
 have S2 := Lib.hid (Bd s h0 h1)
 have S3 := Lib.hid (uM s h0 h1)
 have S4 := Lib.hid (Ic h0 h1 hs)
 have HT := Lib.hid hT
 have HR := Lib.hid (gP (n := k) (by omega) (by omega))
 clear hT hv
 go_enter Tryz.func60, Tryz.ntmps60
 go_wp2_with fail
 refine (HV.out _).mono ?_
 rintro e w1 ⟨rfl, hb1⟩
 have b0 : aG w1 w.heap.size 36 #[.int .i64 k, .string s] := (aG.new w _ _).below hb1 (by simp)
 have hb : Below w.heap.size w w1 := ((Below.refl _ _).alloc (Nat.le_refl _) _).trans (hb1.mono (by simp))
 have HBW := Lib.hid hb
 have HC : Hid (∀ w', Below w1.heap.size w1 w' -> w'.cell? ⟨w.heap.size, 0, none⟩ = some (.int .i64 k) /\ w'.cell? ⟨w.heap.size, 1, none⟩ = some (.string s)) := Lib.hid (fun w' hw => ⟨(b0.below hw b0.lt).cell 0, (b0.below hw b0.lt).cell 1⟩)
 clear hb1 b0 hb
 go_upto_region 3 with fail
 refine vP 149 15 Wm 5 Nh (Wp w.heap.size k s T) (Be w1 k s) (by kernel_rfl) (by kernel_rfl) rfl Sd Wn Wo Se ?hcw Ni Ig ?h0 ?hloose ?hchain ?hK
 case hcw =>
  intro n hn
  rcases (show n = 0 \/ n = 1 \/ n = 2 \/ n = 3 by omega) with rfl | rfl | rfl | rfl <;> exact of_decide_eq_true (by kernel_rfl)
 case h0 => exact wO (Below.refl _ _)
 case hloose =>
  intro i hi hn y w2 hf hw hch
  obtain ⟨nn, vv, _, hcc⟩ := hch
  have hbe := uN hcc
  clear hcc
  rcases (show i = 0 \/ i = 1 \/ i = 2 \/ i = 3 \/ i = 4 \/ i = 5 \/ i = 6 \/ i = 7 \/ i = 8 \/ i = 9 \/ i = 10 \/ i = 11 \/ i = 12 \/ i = 13 \/ i = 14 by omega) with rfl | rfl | rfl | rfl | rfl | rfl | rfl | rfl | rfl | rfl | rfl | rfl | rfl | rfl | rfl
  ·exact absurd rfl (hn 0 (by omega))
  ·have e1 : y.tmps[1]?.getD undef = .pointer (some ⟨w.heap.size, 0, none⟩) := by rw [hf.2.2 1 (by decide)]; rfl
   clear hf hw hn hbe
   refine aA (v := .pointer (some ⟨w.heap.size, 0, none⟩)) (w' := w2) rfl rfl ?_ ⟨_, rfl, (fun h => by cases h), aC _ _, rfl⟩
   go_simp
  ·have e1 : y.tmps[8]?.getD undef = .pointer (some ⟨w.heap.size, 0, none⟩) := hw 1 (of_decide_eq_true (by kernel_rfl))
   obtain ⟨c0, c1⟩ := HC.out w2 hbe
   clear hf hw hn hbe
   refine aA (v := .int .i64 k) (w' := w2) rfl rfl ?_ ⟨_, rfl, (fun h => by cases h), aC _ _, rfl⟩
   go_simp
  ·have e1 : y.tmps[9]?.getD undef = .int .i64 k := hw 2 (of_decide_eq_true (by kernel_rfl))
   clear hf hw hn hbe
   refine aA (v := .slice (some ⟨w2.heap.size, 0, none⟩) 1 1) (w' := w2.alloc (.cells #[.int .i64 k] 3)) rfl rfl ?_ ⟨_, rfl, (fun h => by cases h), bH (aC _ _) _, ⟨_, rfl, aG.new _ _ _⟩⟩
   go_simp
  ·exact absurd rfl (hn 1 (by omega))
  ·have e1 : y.tmps[1]?.getD undef = .pointer (some ⟨w.heap.size, 0, none⟩) := by rw [hf.2.2 1 (by decide)]; rfl
   clear hf hw hn hbe
   refine aA (v := .pointer (some ⟨w.heap.size, 1, none⟩)) (w' := w2) rfl rfl ?_ ⟨_, rfl, (fun h => by cases h), aC _ _, rfl⟩
   go_simp
  ·have e1 : y.tmps[12]?.getD undef = .pointer (some ⟨w.heap.size, 1, none⟩) := hw 5 (of_decide_eq_true (by kernel_rfl))
   obtain ⟨c0, c1⟩ := HC.out w2 hbe
   clear hf hw hn hbe
   refine aA (v := .string s) (w' := w2) rfl rfl ?_ ⟨_, rfl, (fun h => by cases h), aC _ _, rfl⟩
   go_simp
  ·have e1 : y.tmps[13]?.getD undef = .string s := hw 6 (of_decide_eq_true (by kernel_rfl))
   clear hf hw hn hbe
   refine aA (v := .slice (some ⟨w2.heap.size, 0, none⟩) 1 1) (w' := w2.alloc (.cells #[.string s] 9)) rfl rfl ?_ ⟨_, rfl, (fun h => by cases h), bH (aC _ _) _, ⟨_, rfl, aG.new _ _ _⟩⟩
   go_simp
  ·exact absurd rfl (hn 2 (by omega))
  ·exact absurd rfl (hn 3 (by omega))
  ·exact absurd rfl (hn 4 (by omega))
  ·have e1 : y.tmps[17]?.getD undef = .tuple #[.string T, .int .i64 0] := hw 10 (of_decide_eq_true (by kernel_rfl))
   clear hf hw hn hbe
   refine aA (v := .string T) (w' := w2) rfl rfl ?_ ⟨_, rfl, (fun h => by cases h), aC _ _, rfl⟩
   go_simp
  ·have e1 : y.tmps[17]?.getD undef = .tuple #[.string T, .int .i64 0] := hw 10 (of_decide_eq_true (by kernel_rfl))
   clear hf hw hn hbe
   refine aA (v := .int .i64 0) (w' := w2) rfl rfl ?_ ⟨_, rfl, (fun h => by cases h), aC _ _, rfl⟩
   go_simp
  ·have e1 : y.tmps[18]?.getD undef = .string T := hw 11 (of_decide_eq_true (by kernel_rfl))
   clear hf hw hn hbe
   refine aA (v := .string T) (w' := w2) rfl rfl ?_ ⟨_, rfl, (fun h => by cases h), aC _ _, rfl⟩
   go_simp
  ·have e1 : y.tmps[19]?.getD undef = .int .i64 0 := hw 12 (of_decide_eq_true (by kernel_rfl))
   clear hf hw hn hbe
   refine aA (v := .int .i64 0) (w' := w2) rfl rfl ?_ ⟨_, rfl, (fun h => by cases h), aC _ _, rfl⟩
   go_simp
 case hchain =>
  intro n hn y w2 hf hw hch
  rcases (show n = 0 \/ n = 1 \/ n = 2 \/ n = 3 \/ n = 4 by omega) with rfl | rfl | rfl | rfl | rfl
  ·have hbe : Below w1.heap.size w1 w2 := hch
   clear hf hw hch
   change wpOp _ _ _ 0 _ _ _
   refine aA (v := .pointer (some ⟨w2.heap.size, 0, none⟩)) (w' := w2.alloc (.cells #[.pointer none, .int .i64 0, .int .i64 0] 149)) rfl rfl ?_ ⟨_, rfl, (fun h => by cases h), cP.of_none (bH (aC _ _) _), ⟨hbe.alloc hbe.size _, _, rfl, hbe.size, bF.new w2⟩, trivial⟩
   go_simp
  ·obtain ⟨hbe, g, hg, hgW, ho⟩ := hch
   have e1 : y.tmps[7]?.getD undef = .pointer (some ⟨g, 0, none⟩) := hg
   obtain ⟨b, e2, hbk⟩ : ∃ b, y.tmps[10]?.getD undef = .slice (some ⟨b, 0, none⟩) 1 1 /\ aG w2 b 3 #[.int .i64 k] := hw 3 (of_decide_eq_true (by kernel_rfl))
   clear hf hw hg
   change wpOp _ _ _ 4 _ _ _
   refine aP (f := 82) (args := #[.pointer (some ⟨g, 0, none⟩), .slice (some ⟨b, 0, none⟩) 1 1]) rfl rfl (by go_simp) ((oJ g _ _ 1 1 [k] w2 rfl (Sb hbk) (by simp) HR.out ho (by simp [qD])).mono ?_)
   rintro e w3 ⟨rfl, h3, hg3⟩
   exact ⟨_, rfl, _, rfl, (fun h => by cases h), ho.grownT hg3, ⟨aH hbe hg3 hgW, g, rfl, hgW, h3⟩, trivial⟩
  ·obtain ⟨hbe, g, hg, hgW, ho⟩ := hch
   have e1 : y.tmps[11]?.getD undef = .pointer (some ⟨g, 0, none⟩) := hg
   obtain ⟨b, e2, hbk⟩ : ∃ b, y.tmps[14]?.getD undef = .slice (some ⟨b, 0, none⟩) 1 1 /\ aG w2 b 9 #[.string s] := hw 7 (of_decide_eq_true (by kernel_rfl))
   clear hf hw hg
   change wpOp _ _ _ 8 _ _ _
   refine aP (f := 104) (args := #[.pointer (some ⟨g, 0, none⟩), .slice (some ⟨b, 0, none⟩) 1 1]) rfl rfl (by go_simp) ((Cv g _ _ 1 1 [s] w2 rfl (Sc hbk) (by simp) (by rw [eW, <- Lib.size_eq]; omega) ho (by rw [S2.out]; simp)).mono ?_)
   rintro e w3 ⟨rfl, h3, hg3⟩
   exact ⟨_, rfl, _, rfl, (fun h => by cases h), ho.grownT hg3, ⟨aH hbe hg3 hgW, g, rfl, hgW, h3⟩, trivial⟩
  ·obtain ⟨hbe, g, hg, hgW, ho⟩ := hch
   have e1 : y.tmps[15]?.getD undef = .pointer (some ⟨g, 0, none⟩) := hg
   clear hf hw hg
   change wpOp _ _ _ 9 _ _ _
   refine aP (f := 105) (args := #[.pointer (some ⟨g, 0, none⟩), .int .i64 33]) rfl rfl (by go_simp) ((Ln g _ 33 w2 ho (by rw [S3.out]; simp only [List.length_cons]; rw [<- Lib.size_eq]; omega)).mono ?_)
   rintro e w3 ⟨rfl, h3, hg3⟩
   exact ⟨_, rfl, _, rfl, (fun h => by cases h), ho.grownT hg3, ⟨aH hbe hg3 hgW, g, rfl, hgW, h3⟩, trivial⟩
  ·obtain ⟨hbe, g, hg, hgW, ho⟩ := hch
   have e1 : y.tmps[16]?.getD undef = .pointer (some ⟨g, 0, none⟩) := hg
   have hlen : (qD k s 4).l.length <= 140737488351232 := by
    rw [S4.out]
    show (pZ k s).length <= _
    unfold pZ
    rw [List.length_cons, List.length_append, List.length_replicate, <- Lib.size_eq]
    omega
   clear hf hw hg
   change wpOp _ _ _ 10 _ _ _
   refine aP (f := 85) (args := #[.pointer (some ⟨g, 0, none⟩)]) rfl rfl (by go_simp) ((nE g _ w2 ho (by rw [S4.out]; exact Wr.ok_zero _) hlen).mono ?_)
   rintro e w3 ⟨rfl, h3, hb3⟩
   refine ⟨_, rfl, _, rfl, (fun h => by cases h), cP.of_none (cT hb3 (Nat.le_refl _)), hbe.trans (hb3.mono hbe.size), ?_⟩
   show Value.tuple #[.string ⟨(qD k s 4).l.toArray⟩, .int .i64 (qD k s 4).e] = .tuple #[.string T, .int .i64 0]
   rw [S4.out, HT.out]
 case hK =>
  intro y w2 hf hv hch
  obtain ⟨_, hbe⟩ := hch
  have hbe : Below w1.heap.size w1 w2 := hbe
  have e2 : y.tmps[2]?.getD undef = .string T := hv 13 (by omega)
  have e3 : y.tmps[3]?.getD undef = .int .i64 0 := hv 14 (by omega)
  have hd : y.defers = [] := hf.1
  clear hf hv
  obtain ⟨tt, dd⟩ := y
  obtain rfl : dd = [] := hd
  have f2 : tt.getD 2 undef = .string T := by rw [Array.getD_eq_getD_getElem?]; exact e2
  have f3 : tt.getD 3 undef = .int .i64 0 := by rw [Array.getD_eq_getD_getElem?]; exact e3
  clear e2 e3
  go_wp2_with fail
  go_ret2
  exact ⟨by rw [f2, f3], HBW.out.trans (hbe.mono HBW.out.size)⟩
theorem Sf (k : Int) (s : ByteArray) (w : World) :
  Calls Tryz.prog 60 #[.agg #[.int .i64 k, .string s]] w fun e w' => e = .returned (Wl k s) /\ Below w.heap.size w w' := by
 cases hv : kG k s with
 | true =>
   have h := hv
   simp only [kG, Bool.and_eq_true, decide_eq_true_eq] at h
   have hr := lK k
   have hk : 0 <= k /\ k < 256 := by
    by_cases h1 : k = 1
    ·omega
    ·by_cases h2 : k = 2
     ·omega
     ·rw [lJ h1 h2] at h; omega
   rw [show Wl k s = _ from if_pos hv]
   exact Nj k s w hk.1 hk.2 (by omega) hv
 | false =>
   rw [show Wl k s = _ from if_neg (by rw [hv]; decide)]
   have HV : Hid (∀ w, Calls Tryz.prog 103 #[.agg #[.int .i64 k, .string s]] w fun e w' => e = .returned (.bool false) /\ Below w.heap.size w w') := Lib.hid (fun w => by have := Ag k s w; rwa [hv] at this)
   clear hv
   go_enter Tryz.func60, Tryz.ntmps60
   go_wp2_with fail
   refine (HV.out _).mono ?_
   rintro e w1 ⟨rfl, hb1⟩
   go_wp2_with fail
   go_ret2
   exact ⟨rfl, ((Below.refl _ _).alloc (Nat.le_refl _) _).trans (hb1.mono (by simp))⟩
theorem tE {k : Int} {s : ByteArray} (hs : s.size <= 32) : (ByteArray.mk (pZ k s).toArray).size = 33 := by
 show (pZ k s).toArray.size = 33
 rw [List.size_toArray]
 unfold pZ
 rw [List.length_cons, List.length_append, List.length_replicate, <- Lib.size_eq]
 omega
theorem Ws {k : Int} (h : iJ k ≠ 0) : k = 1 \/ k = 2 := by
 by_cases h1 : k = 1
 ·exact .inl h1
 ·by_cases h2 : k = 2
  ·exact .inr h2
  ·exact absurd (lJ h1 h2) h
theorem nF {k : Int} (h : iJ k ≠ 0) (xs : List ByteArray) : ((dE k xs).size : Int) = iJ k := by
 rcases Ws h with rfl | rfl
 ·show (((Cn (aW xs)).toArray.size : Nat) : Int) = 20
  rw [List.size_toArray, Ee]
  rfl
 ·show (((zT (aW xs)).toArray.size : Nat) : Int) = 32
  rw [List.size_toArray, Ez]
  rfl
theorem zV {k : Int} (h : iJ k ≠ 0) (xs : List ByteArray) : kG k (dE k xs) = true := by
 have h1 := nF h xs
 have h2 := lK k
 simp only [kG, Bool.and_eq_true, decide_eq_true_eq]
 exact ⟨by omega, h1⟩
theorem Wt {k : Int} (h : iJ k ≠ 0) (xs : List ByteArray) : AD k xs = .tuple #[.agg #[.int .i64 k, .string (dE k xs)], .int .i64 0] := if_neg h
theorem Sj {k : Int} {s : ByteArray} (h : kG k s = true) : Wl k s = .tuple #[.string ⟨(pZ k s).toArray⟩, .int .i64 0] := if_pos h
end Go.Proofs.YtingkbeifohihaaGreatDoor
