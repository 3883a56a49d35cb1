/-
  The statements' helper over lists of texts (package masonrybook): few and short enough, joined, lent, as they were.
-/
import Derived.Test.YtingkbeifohihaaGreatDoorOneMix
import Derived.Test.YtingkbeifohihaaGreatDoorRegionApp
import Derived.Lib.Bytes
import Derived.Lib.BufferWrite
import Derived.Test.YtingkbeifohihaaGreatDoorBytes
import Derived.BigCall
import Derived.Deep.AppendLies
import Derived.Deep.RegionHeld3
import Derived.Deep.QuietTactic
import Derived.BigQuiet
namespace Go.Proofs.YtingkbeifohihaaGreatDoor
open Go.RowKit
set_option maxRecDepth 100000
set_option maxHeartbeats 2000000
def pY (s : St) (p : Nat -> UInt8) (n : Nat) : List Value := (aJ s).toList ++ (aS p 64 ++ [.int .i64 (n : Int)])
def aN (s : St) (p : Nat -> UInt8) (n : Nat) : Array Value := (pY s p n).toArray
theorem oF (s : St) (p : Nat -> UInt8) (n : Nat) : (pY s p n).length = 70 := by unfold pY aS aJ; simp
theorem fT (s : St) (p : Nat -> UInt8) (n : Nat) : (aN s p n).size = 70 := by unfold aN; simp [oF]
theorem kA (p : Nat -> UInt8) (n : Nat) : (aS p n).length = n := by unfold aS; simp
theorem Rl (p : Nat -> UInt8) {i n : Nat} (hi : i < n) : (aS p n)[i]? = some (.int .u8 ((p i).toNat : Int)) := by
 have := kC p hi
 rwa [List.getElem?_toArray] at this
theorem nA {s : St} {p : Nat -> UInt8} {n i : Nat} (h : i < 5) : (pY s p n)[i]? = (aJ s).toList[i]? := by
 unfold pY
 rw [List.getElem?_append_left (by unfold aJ; simpa using h)]
theorem kB {s : St} {p : Nat -> UInt8} {n i : Nat} (h : i < 64) : (pY s p n)[5 + i]? = some (.int .u8 ((p i).toNat : Int)) := by
 unfold pY
 rw [List.getElem?_append_right (by unfold aJ; simp), List.getElem?_append_left (by rw [kA]; unfold aJ; simp; omega), <- Rl p h]
 congr 1
 unfold aJ; simp
theorem kM {s : St} {p : Nat -> UInt8} {n : Nat} : (pY s p n)[69]? = some (.int .i64 (n : Int)) := by
 unfold pY
 rw [List.getElem?_append_right (by unfold aJ; simp), List.getElem?_append_right (by rw [kA]; unfold aJ; simp), kA]
 unfold aJ; rfl
def nY (p : Nat -> UInt8) (r k : Nat) (l : List UInt8) : Nat -> UInt8 := fun t => if r <= t /\ t < r + k then l.getD (t - r) 0 else p t
theorem Ml (s : St) (p : Nat -> UInt8) (n r k : Nat) (l : List UInt8) (hr : r + k <= 64) (hk : k <= l.length) :
  (pY s p n).take (5 + r) ++ Lib.byteCells (l.take k) ++ (pY s p n).drop (5 + r + k) = pY s (nY p r k l) n := by
 have hl := oF s p n
 have hb : (Lib.byteCells (l.take k)).length = k := by unfold Lib.byteCells; rw [List.length_map, List.length_take]; omega
 apply List.ext_getElem?
 intro i
 by_cases h1 : i < 5
 ·rw [List.append_assoc, List.getElem?_append_left (by rw [List.length_take]; omega), List.getElem?_take, if_pos (by omega), nA h1, nA h1]
 ·obtain ⟨j, rfl⟩ : ∃ j, i = 5 + j := ⟨i - 5, by omega⟩
  by_cases h2 : j < r
  ·rw [List.append_assoc, List.getElem?_append_left (by rw [List.length_take]; omega), List.getElem?_take, if_pos (by omega), kB (by omega), kB (by omega)]
   unfold nY
   rw [if_neg (by omega)]
  ·by_cases h3 : j < r + k
   ·rw [List.append_assoc, List.getElem?_append_right (by rw [List.length_take]; omega), List.getElem?_append_left (by rw [List.length_take, hb]; omega), kB (by omega)]
    unfold nY Lib.byteCells
    rw [if_pos (by omega), List.getElem?_map, List.getElem?_take, if_pos (by rw [List.length_take]; omega)]
    have e : 5 + j - (List.take (5 + r) (pY s p n)).length = j - r := by rw [List.length_take]; omega
    rw [e, List.getElem?_eq_getElem (by omega), List.getD_eq_getElem?_getD, List.getElem?_eq_getElem (by omega)]
    rfl
   ·rw [List.getElem?_append_right (by rw [List.length_append, List.length_take, hb]; omega), List.getElem?_drop]
    have e : 5 + r + k + (5 + j - (List.take (5 + r) (pY s p n) ++ Lib.byteCells (l.take k)).length) = 5 + j := by rw [List.length_append, List.length_take, hb]; omega
    rw [e]
    by_cases h4 : j < 64
    ·rw [kB h4, kB h4]
     unfold nY
     rw [if_neg (by omega)]
    ·by_cases h5 : j = 64
     ·subst h5
      exact kM.trans kM.symm
     ·rw [List.getElem?_eq_none (by omega), List.getElem?_eq_none (by rw [oF]; omega)]
theorem zQ {s : St} {p : Nat -> UInt8} {n r k : Nat} {l : List UInt8} (hr : r + k <= 64) (hk : k <= l.length) :
  ((aN s p n).toList.take (5 + r) ++ Lib.byteCells (l.take k) ++ (aN s p n).toList.drop (5 + r + k)).toArray = aN s (nY p r k l) n := by
 unfold aN
 rw [List.toList_toArray, Ml s p n r k l hr hk]
theorem oG (s : St) (p : Nat -> UInt8) (n n' : Nat) : (aN s p n).setIfInBounds 69 (.int .i64 (n' : Int)) = aN s p n' := by
 unfold aN pY
 have e : (aJ s).toList.length + (aS p 64).length = 69 := by rw [kA]; unfold aJ; rfl
 rw [List.setIfInBounds_toArray, <- List.append_assoc, <- List.append_assoc, List.set_append_right _ _ (by rw [List.length_append, e]; exact Nat.le_refl _), List.length_append, e]
 rfl
theorem xE (s s' : St) (p : Nat -> UInt8) (n : Nat) : ((aN s p n).toList.take 0 ++ (aJ s').toList ++ (aN s p n).toList.drop (0 + (aJ s').size)).toArray = aN s' p n := by
 unfold aN pY
 rfl
def rP (w : World) (g : Nat) (m : List UInt8) : Prop :=
 ∃ p : Nat -> UInt8, (∀ t, t < m.length % 64 -> p t = m.getD (64 * (m.length / 64) + t) 0) /\ aG w g 207 (aN (gN m (m.length / 64)) p m.length)
theorem Aq {m l : List UInt8} {p : Nat -> UInt8} {k : Nat} (hp : ∀ t, t < m.length % 64 -> p t = m.getD (64 * (m.length / 64) + t) 0) :
  ∀ t, t < m.length % 64 + k -> nY p (m.length % 64) k l t = (m ++ l.take k).getD (64 * (m.length / 64) + t) 0 := by
 intro t ht
 have hm : 64 * (m.length / 64) + m.length % 64 = m.length := Nat.div_add_mod _ _
 unfold nY
 by_cases h : t < m.length % 64
 ·rw [if_neg (by omega), hp t h, wY _ _ _ (by omega)]
 ·rw [if_pos (by omega), Mj _ _ _ (by omega), List.getD_eq_getElem?_getD, List.getD_eq_getElem?_getD, List.getElem?_take, if_pos (by omega)]
  congr 2
  omega
theorem Rm {w : World} {g : Nat} {m l : List UInt8} {p : Nat -> UInt8} {k : Nat} (hp : ∀ t, t < m.length % 64 -> p t = m.getD (64 * (m.length / 64) + t) 0) (hk : k <= l.length) (hr : m.length % 64 + k < 64)
  (hB : aG w g 207 (aN (gN m (m.length / 64)) (nY p (m.length % 64) k l) (m.length + k))) : rP w g (m ++ l.take k) := by
 have hlen : (m ++ l.take k).length = m.length + k := by rw [List.length_append, List.length_take]; omega
 have hq : (m.length + k) / 64 = m.length / 64 := by omega
 have hm : (m.length + k) % 64 = m.length % 64 + k := by omega
 refine ⟨nY p (m.length % 64) k l, fun t ht => ?_, ?_⟩
 ·rw [hlen, hm] at ht
  rw [hlen, hq]
  exact Aq hp t ht
 ·rw [hlen, hq, Am m _ _ (by omega)]
  exact hB
theorem Mm {w : World} {g : Nat} {m l : List UInt8} {p : Nat -> UInt8} {k : Nat} (hp : ∀ t, t < m.length % 64 -> p t = m.getD (64 * (m.length / 64) + t) 0) (hk : k <= l.length) (hr : m.length % 64 + k = 64)
  (hB : aG w g 207 (aN (dS (nY p (m.length % 64) k l) (gN m (m.length / 64))) (nY p (m.length % 64) k l) (m.length + k))) : rP w g (m ++ l.take k) := by
 have hlen : (m ++ l.take k).length = m.length + k := by rw [List.length_append, List.length_take]; omega
 have hq : (m.length + k) / 64 = m.length / 64 + 1 := by omega
 have hm : (m.length + k) % 64 = 0 := by omega
 refine ⟨nY p (m.length % 64) k l, fun t ht => ?_, ?_⟩
 ·rw [hlen, hm] at ht
  cases ht
 ·rw [hlen, hq, qM, Am m _ _ (by omega), wX (q := nY p (m.length % 64) k l)]
  ·exact hB
  ·intro t ht
   exact (Aq hp t (by omega)).symm
theorem zR {P : Program} (w : World) (dT sT ty elem : TypeId) (g o dLen dCap : Nat) (s : ByteArray) (cur : Array Value) (t : TypeId) (k : Nat) (hk : Nat.min s.size dLen = k)
  (hu : P.underlying dT = some (.slice elem)) (hs : (P.info? elem).map (·.size) = some 1) (hg : aG w g t cur) (hfit : o + k <= cur.size) :
  (Builtin.copy_ #[dT, sT] ty #[.slice (some ⟨g, o, none⟩) dLen dCap, .string s]).run P w =
   .ok (goInt k) (w.setRow g (cur.toList.take o ++ Lib.byteCells (s.data.toList.take k) ++ cur.toList.drop (o + k)).toArray) := by
 have hks : k <= s.size := by rw [<- hk]; exact Nat.min_le_left _ _
 have hlen : (Lib.byteCells (s.data.toList.take k)).length = k := by unfold Lib.byteCells; rw [List.length_map, List.length_take, <- Lib.size_eq]; omega
 have hst := fP (P := P) (g := g) (off := o) t (Lib.byteCells (s.data.toList.take k)) 0 cur w hg (by rw [hlen]; simpa using hfit) (Lib.byteCells_one _)
 have htk : List.take k (List.map (fun b : UInt8 => Value.int IntKind.u8 (b.toNat : Int)) s.data.toList) = Lib.byteCells (s.data.toList.take k) := by
  rw [<- List.map_take]
  rfl
 rw [hlen] at hst
 simp only [Nat.add_zero] at hst
 cases hq : P.info? elem with
 | none => simp [hq] at hs
 | some i =>
   simp [Builtin.copy_, run_underlying hu, Builtin.lenOf, Builtin.firstCells, sizeOf, typeInfo, hq, hk]
   rw [htk, hst]
   simp [Result.andThen]
theorem tJ {P : Program} {w : World} {ops : Array Oper} {rest : List Oper} {o : Oper} {a : Act} {Q : Exit -> Act -> World -> Prop} (hgd : o.guard = none) (d x : Operand) (dT sT elem : TypeId) (g off dLen dCap : Nat) (s : ByteArray) (cur : Array Value) (t : TypeId) (k : Nat)
  (ho : o.op = .call { callee := .builtin .copy, args := #[d, x], argTypes := #[dT, sT] }) (hd : a.eval d = .slice (some ⟨g, off, none⟩) dLen dCap) (hx : a.eval x = .string s)
  (hk : Nat.min s.size dLen = k) (hu : P.underlying dT = some (.slice elem)) (hs : (P.info? elem).map (·.size) = some 1) (hg : aG w g t cur) (hfit : off + k <= cur.size)
  (h : wpList P ops Q rest (a.put o.dst (.int .i64 (k : Int))) (w.setRow g (cur.toList.take off ++ Lib.byteCells (s.data.toList.take k) ++ cur.toList.drop (off + k)).toArray)) : wpList P ops Q (o :: rest) a w := by
 refine wpList_plain hgd fun K hK => ?_
 have hrun := zR (P := P) w dT sT o.type elem g off dLen dCap s cur t k hk hu hs hg hfit
 unfold Oper.wp
 simp [execOp, ho, resolve, invoke, builtin, hd, hx, hrun, Result.andThen]
 rw [List.append_assoc] at h
 exact hK _ _ h
def Zc : Value -> Nat
 | .string b => b.size
 | _ => 0
theorem rQ (r : ByteArray) (k : Nat) : (r.extract k r.size).data.toList = r.data.toList.drop k := by
 rw [ByteArray.data_extract, Array.toList_extract, List.extract_eq_take_drop, List.take_of_length_le (by rw [List.length_drop, <- Lib.size_eq]; exact Nat.le_refl _)]
theorem qB {s : St} {p : Nat -> UInt8} {n j : Nat} {v : Value} (h : (aJ s)[j]? = some v) : (aN s p n)[0 + j]? = some v := by
 have hj : j < 5 := (Array.getElem?_eq_some_iff.1 h).1
 unfold aN
 rw [Nat.zero_add, List.getElem?_toArray, nA hj, Array.getElem?_toList]
 exact h
theorem Cp {s : St} {p : Nat -> UInt8} {n j : Nat} {v : Value} (h : (aS p 64).toArray[j]? = some v) : (aN s p n)[5 + j]? = some v := by
 have hj : j < 64 := by have := (Array.getElem?_eq_some_iff.1 h).1; simpa [kA] using this
 rw [kC p hj] at h
 unfold aN
 rw [List.getElem?_toArray, kB hj]
 exact h
section
variable (w1 : World) (g : Nat) (C C' : Array Value) (hv pv xv : Value) (F : Act)
def Rn (i : Nat) (v : Value) : Prop :=
 match i with
 | 4 => v = hv
 | 7 => v = .pointer (some ⟨g, 5, none⟩)
 | 8 => v = pv
 | 9 => v = xv
 | _ => v = .pointer (some ⟨g, 0, none⟩)
def xF (L : Nat -> Bool) (x : Act) (w : World) : Prop :=
 bI F 35 46 x /\ Hr 12 35 (Rn g hv pv xv) L x /\ (L 11 = true -> L 10 = true) /\ (L 12 = true -> (∀ i, i < 12 -> L i = true) /\ aG w g 207 C') /\ (L 12 = false -> aG w g 207 C) /\ w1.grownBy w (some g)
theorem Lk {L : Nat -> Bool} {x : Act} {w : World} (h : xF w1 g C C' hv pv xv F L x w) {i : Nat} (hi : i < 12) (hL : L i = false) : L 12 = false /\ aG w g 207 C := by
 obtain ⟨_, _, _, h4, h5, _⟩ := h
 cases h12 : L 12 with
 | false => exact ⟨rfl, h5 h12⟩
 | true =>
   have := (h4 h12).1 i hi
   rw [hL] at this
   cases this
theorem fZ {L : Nat -> Bool} {x : Act} {w w' : World} (hF : F.tmps.size = 47) (h : xF w1 g C C' hv pv xv F L x w) (i : Nat) (v : Value) (hi : i < 12) (hL : L i = false) (h11 : i = 11 -> L 10 = true)
  (hB : aG w' g 207 C) (hG : w1.grownBy w' (some g)) (hvi : Rn g hv pv xv i v) : xF w1 g C C' hv pv xv F (fun j => if i = j then true else L j) (x.put (some (35 + i)) v) w' := by
 have ho := (Lk w1 g C C' hv pv xv F h hi hL).1
 obtain ⟨h1, h2, h3, h4, h5, h6⟩ := h
 refine ⟨h1.put _ v (by omega) (by omega), h2.next i v (by rw [h1.2.1, hF]; omega) (fun _ _ _ _ hu => hu) hvi, ?_, ?_, fun _ => hB, hG⟩
 ·intro h
  by_cases e : i = 10
  ·simp [e]
  ·by_cases e' : i = 11
   ·simp only [e', show ¬ 11 = 10 by decide, if_false]
    exact h11 e'
   ·simp only [if_neg e', if_neg e] at h ⊢
    exact h3 h
 ·intro h
  simp only [if_neg (show ¬ i = 12 by omega), ho] at h
  cases h
theorem Wh {L : Nat -> Bool} {x : Act} {w w' : World} (h : xF w1 g C C' hv pv xv F L x w) (ha : ∀ i, i < 12 -> i ≠ 10 -> L i = true) (hB : aG w' g 207 C') (hG : w1.grownBy w' (some g)) :
  xF w1 g C C' hv pv xv F (fun j => if 12 = j then true else L j) (x.put none undef) w' := by
 obtain ⟨h1, h2, h3, h4, h5, h6⟩ := h
 have hall : ∀ i, i < 12 -> L i = true := fun i hi => by
  by_cases e : i = 10
  ·subst e; exact h3 (ha 11 (by omega) (by omega))
  ·exact ha i hi e
 refine ⟨h1, fun i hi hL => h2 i hi (hall i hi), fun _ => by simp [hall 10 (by omega)], fun _ => ⟨fun i hi => by simp [hall i hi], hB⟩, fun h => ?_, hG⟩
 simp at h
end
theorem Ar (g : Nat) (m : List UInt8) (s : ByteArray) (w : World) (h : rP w g m) (hs : m.length + s.size <= 4000000000000) :
  Calls Tryz.prog 149 #[.pointer (some ⟨g, 0, none⟩), .string s] w fun e w' => e = .returned (.tuple #[]) /\ rP w' g (m ++ s.data.toList) /\ w.grownBy w' (some g) := by
 have H := Lib.hid h
 have HS := Lib.hid hs
 clear h hs
 go_enter Tryz.func149, Tryz.ntmps149
 go_wp2_with fail
 go_loopw [1] (fun v1 wr => ∃ (m' : List UInt8) (r : ByteArray), v1 = .string r /\ m' ++ r.data.toList = m ++ s.data.toList /\ rP wr g m' /\ w.grownBy wr (some g)) (fun v1 _ => Zc v1)
 case atStart => exact ⟨m, s, rfl, rfl, H.out, aC _ _⟩
 case round =>
  obtain ⟨m', r, rfl, hm, hD, hgr⟩ := hrel
  obtain ⟨p, hp, hB⟩ := hD
  have HM := Lib.hid hm
  have HP := Lib.hid hp
  have HB := Lib.hid hB
  have HG := Lib.hid hgr
  have hlen : m'.length + r.size <= 4000000000000 := by
   have := congrArg List.length hm
   rw [List.length_append, List.length_append, <- Lib.size_eq, <- Lib.size_eq] at this
   have := HS.out
   omega
  clear hm hp hB hgr
  by_cases h0 : r.size = 0
  ·obtain rfl : r = .empty := by apply ByteArray.ext; exact Array.eq_empty_of_size_eq_zero h0
   go_wp2_with fail
   refine xC rfl rfl ⟨rfl, ?_, HG.out⟩
   have e : m ++ s.data.toList = m' := by rw [<- HM.out]; exact List.append_nil _
   rw [e]
   exact ⟨p, HP.out, HB.out⟩
  ·have hne : r.toList.isEmpty = false := by
    rw [Lib.toList_data, List.isEmpty_eq_false_iff]
    intro e
    have := congrArg List.length e
    rw [<- Lib.size_eq] at this
    exact h0 this
   obtain ⟨n, hn⟩ : ∃ n, n = m'.length := ⟨_, rfl⟩
   obtain ⟨q, hq⟩ : ∃ q, q = m'.length % 64 := ⟨_, rfl⟩
   have hq64 : q < 64 := by omega
   have hnq : Int.tmod (n : Int) 64 = (q : Int) := by rw [Int.tmod_eq_emod_of_nonneg (by omega)]; omega
   have hcn : wr.cell? ⟨g, 69, none⟩ = some (.int .i64 (n : Int)) := by
    rw [HB.out.cell, hn]
    unfold aN
    rw [List.getElem?_toArray]
    exact kM
   have hqI : (q : Int) <= 64 := by omega
   have HN := Lib.hid (And.intro hn hq)
   clear hn hq
   go_wp2_with fail
   go_still_tail 10, (by kernel_rfl)
   change wpList _ _ _ _ _ wr.drew
   rw [if_neg (show ¬ 64 = q by omega)]
   obtain ⟨k, hk⟩ : ∃ k, Nat.min r.size (64 - q) = k := ⟨_, rfl⟩
   have hk1 : k <= r.size := by rw [<- hk]; exact Nat.min_le_left _ _
   have hk2 : k <= 64 - q := by rw [<- hk]; exact Nat.min_le_right _ _
   have hk3 : 0 < k := by rw [<- hk]; exact Nat.lt_min.2 ⟨by omega, by omega⟩
   refine tJ rfl (.tmp 15) (.tmp 16) 79 9 5 g (5 + q) (64 - q) (64 - q) r _ _ k rfl rfl rfl hk (by kernel_rfl) (by kernel_rfl) HB.out.drew (by rw [fT]; omega) ?_
   rw [zQ (by omega) (by rw [<- Lib.size_eq]; exact hk1)]
   obtain ⟨po, hpo⟩ : ∃ po, po = nY p q k r.data.toList := ⟨_, rfl⟩
   obtain ⟨ho, hho⟩ : ∃ ho, ho = gN m' (m'.length / 64) := ⟨_, rfl⟩
   have hB2 := bQ HB.out.drew (aN ho po n)
   have hG2 := Ap (pK HG.out) (aN ho po n)
   rw [<- hpo, <- hho, <- HN.out.1]
   obtain ⟨W2, hW2⟩ : ∃ W2, W2 = wr.drew.setRow g (aN ho po n) := ⟨_, rfl⟩
   rw [<- hW2] at hB2 hG2
   rw [<- hW2]
   have hokh : ho.ok := by rw [hho]; exact wW _ _
   have HO := Lib.hid (And.intro hpo hho)
   have HB2 := Lib.hid hB2
   have HG2 := Lib.hid hG2
   clear hk hW2 hpo hho hB2 hG2 HB HG hcn hne hnq
   have hkI : (k : Int) <= (r.size : Int) := by omega
   have hcn : W2.cell? ⟨g, 69, none⟩ = some (.int .i64 (n : Int)) := by
    rw [HB2.out.cell]
    unfold aN
    rw [List.getElem?_toArray]
    exact kM
   have hfn := HB2.out.frozen 69
   obtain ⟨n2, hn2⟩ : ∃ n2, n2 = n + k := ⟨_, rfl⟩
   have hwn : IntKind.i64.wrap ((n : Int) + (k : Int)) = (n2 : Int) := by
    have := HN.out.1
    rw [IntWalk.i64_in _ (by omega)]
    omega
   obtain ⟨r2, hr2⟩ : ∃ r2, r.extract k r.size = r2 := ⟨_, rfl⟩
   obtain ⟨z, hz⟩ : ∃ z, z = n2 % 64 := ⟨_, rfl⟩
   have hnz : Int.tmod (n2 : Int) 64 = (z : Int) := by rw [Int.tmod_eq_emod_of_nonneg (by omega)]; omega
   have HR := Lib.hid hr2.symm
   have HZ := Lib.hid (And.intro hn2 hz)
   clear hn2 hz
   by_cases hw : z = 0
   ·subst hw
    go_upto_region 5 with fail
    clear hcn hfn hwn hnz hqI hkI hlen
    have hB3 : aG (W2.setCell ⟨g, 69, none⟩ (.int .i64 (n2 : Int))) g 207 (aN ho po n2) := by
     have := HB2.out.put 69 (.int .i64 (n2 : Int))
     rwa [oG] at this
    have hG3 := jK HG2.out 69 (.int .i64 (n2 : Int))
    obtain ⟨W3, hW3⟩ : ∃ W3, W3 = W2.setCell ⟨g, 69, none⟩ (.int .i64 (n2 : Int)) := ⟨_, rfl⟩
    rw [<- hW3] at hB3 hG3
    rw [<- hW3]
    clear hW3
    have HB3 := Lib.hid hB3
    have HG3 := Lib.hid hG3
    clear hB3 hG3 HB2 HG2
    refine rO (fun F L x wi => xF W3 g (aN ho po n2) (aN (dS po ho) po n2) (.agg (aJ ho)) (.agg (aS po 64).toArray) (.agg (aJ (dS po ho))) F L x wi) (by kernel_rfl) (by kernel_rfl) ?h0 ?hs ?hd
    case h0 => exact ⟨bI.refl _ _ _, (fun _ _ h => by cases h), (fun h => by cases h), (fun h => by cases h), fun _ => HB3.out, pK (aC _ _)⟩
    case hd =>
     intro L x wi ⟨hF, _, _, h12, _, hG⟩ hall
     have hB4 := (h12 (hall 12 (show 12 < 13 by omega))).2
     clear h12 hall
     have HB4 := Lib.hid hB4
     have HG4 := Lib.hid (dH HG3.out hG)
     clear hB4 hG
     obtain ⟨t, d⟩ := x
     obtain ⟨x0, x1, x2, x3, x4, x5, x6, x7, x8, x9, x10, x11, x12, x13, x14, x15, x16, x17, x18, x19, x20, x21, x22, x23, x24, x25, x26, x27, x28, x29, x30, x31, x32, x33, x34, x35, x36, x37, x38, x39, x40, x41, x42, x43, x44, x45, x46, rfl⟩ := AF t hF.2.1
     obtain rfl : d = [] := hF.1
     obtain rfl : x0 = .pointer (some ⟨g, 0, none⟩) := Option.some.inj (hF.2.2 0 (by omega))
     obtain rfl : x1 = .string r2 := Option.some.inj (hF.2.2 1 (by omega))
     obtain rfl : x2 = undef := Option.some.inj (hF.2.2 2 (by omega))
     obtain rfl : x3 = undef := Option.some.inj (hF.2.2 3 (by omega))
     clear hF
     go_wp2_with fail
     go_roundw
     case rel =>
      refine ⟨m' ++ r.data.toList.take k, r2, rfl, ?_, ?_, HG4.out⟩
      ·rw [<- HM.out, List.append_assoc, HR.out, rQ, List.take_append_drop]
      ·refine Mm HP.out (by rw [<- Lib.size_eq]; exact hk1) (by have := HN.out; have := HZ.out; omega) ?_
       rw [<- HO.out.2, <- HN.out.2, <- HO.out.1, <- HN.out.1, <- HZ.out.1]
       exact HB4.out
     case measure =>
      show r2.size < r.size
      rw [HR.out, ByteArray.size_extract]
      omega
    case hs =>
     intro L x wi i hI hi hL hw
     have hi : i < 13 := hi
     obtain ⟨hF, hfact, _, _, _, hG⟩ := id hI
     by_cases hi12 : i = 12
     ·subst hi12
      have e1 : x.tmps[46]?.getD undef = .pointer (some ⟨g, 0, none⟩) := hfact 11 (by omega) (hw 11 (of_decide_eq_true (by kernel_rfl)))
      have e2 : x.tmps[44]?.getD undef = .agg (aJ (dS po ho)) := hfact 9 (by omega) (hw 9 (of_decide_eq_true (by kernel_rfl)))
      have ho2 : aG wi g 207 (aN ho po n2) := hI.2.2.2.2.1 hL
      have HSt := Lib.hid (kL (P := Tryz.prog) (ty := 204) (off := 0) (cs := aJ (dS po ho)) ho2 (by rw [fT]; show 0 + 5 <= 70; decide) (by simp [aJ, Value.oneCell']) (fun w => by rw [show (aJ (dS po ho)).size = 5 from rfl]; kernel_rfl))
      have hB5 := bQ ho2 (aN (dS po ho) po n2)
      rw [xE] at HSt
      have HK := Lib.hid (Wh W3 g (aN ho po n2) (aN (dS po ho) po n2) (.agg (aJ ho)) (.agg (aS po 64).toArray) (.agg (aJ (dS po ho))) _ hI (fun j h1 h2 => hw j (by rcases (show j = 0 \/ j = 1 \/ j = 2 \/ j = 3 \/ j = 4 \/ j = 5 \/ j = 6 \/ j = 7 \/ j = 8 \/ j = 9 \/ j = 11 by omega) with rfl | rfl | rfl | rfl | rfl | rfl | rfl | rfl | rfl | rfl | rfl <;> exact of_decide_eq_true (by kernel_rfl))) hB5 (Ap hG (aN (dS po ho) po n2)))
      clear hI hF hfact hG ho2 hw hL hi hB5
      exact eC rfl rfl (qO (p := .pointer (some ⟨g, 0, none⟩)) (v := .agg (aJ (dS po ho))) rfl (by simp [Act.eval, e1]) (by simp [Act.eval, e2]) HSt.out) HK.out
     have ho2 := (Lk W3 g _ _ _ _ _ _ hI (show i < 12 by omega) hL).2
     rcases (show i = 0 \/ i = 1 \/ i = 2 \/ i = 3 \/ i = 4 \/ i = 5 \/ i = 6 \/ i = 7 \/ i = 8 \/ i = 9 \/ i = 10 \/ i = 11 by omega) with rfl | rfl | rfl | rfl | rfl | rfl | rfl | rfl | rfl | rfl | rfl | rfl
     ·have e0 : x.tmps[0]?.getD undef = .pointer (some ⟨g, 0, none⟩) := hF.get 0 (by omega)
      have HK := Lib.hid (fZ W3 g _ (aN (dS po ho) po n2) (.agg (aJ ho)) (.agg (aS po 64).toArray) (.agg (aJ (dS po ho))) _ rfl hI 0 (v := (.pointer (some ⟨g, 0, none⟩))) (by omega) hL (by omega) ho2 hG rfl)
      clear hI hF hfact hG ho2 hw hL hi
      refine aA (v := (.pointer (some ⟨g, 0, none⟩))) (w' := wi) rfl rfl ?_ HK.out
      go_simp
     ·have e0 : x.tmps[0]?.getD undef = .pointer (some ⟨g, 0, none⟩) := hF.get 0 (by omega)
      have HK := Lib.hid (fZ W3 g _ (aN (dS po ho) po n2) (.agg (aJ ho)) (.agg (aS po 64).toArray) (.agg (aJ (dS po ho))) _ rfl hI 1 (v := (.pointer (some ⟨g, 0, none⟩))) (by omega) hL (by omega) ho2 hG rfl)
      clear hI hF hfact hG ho2 hw hL hi
      refine aA (v := (.pointer (some ⟨g, 0, none⟩))) (w' := wi) rfl rfl ?_ HK.out
      go_simp
     ·have e1 : x.tmps[36]?.getD undef = .pointer (some ⟨g, 0, none⟩) := hfact 1 (by omega) (hw 1 (of_decide_eq_true (by kernel_rfl)))
      have HK := Lib.hid (fZ W3 g _ (aN (dS po ho) po n2) (.agg (aJ ho)) (.agg (aS po 64).toArray) (.agg (aJ (dS po ho))) _ rfl hI 2 (v := (.pointer (some ⟨g, 0, none⟩))) (by omega) hL (by omega) ho2 hG rfl)
      clear hI hF hfact hG ho2 hw hL hi
      refine aA (v := (.pointer (some ⟨g, 0, none⟩))) (w' := wi) rfl rfl ?_ HK.out
      go_simp
     ·have e1 : x.tmps[37]?.getD undef = .pointer (some ⟨g, 0, none⟩) := hfact 2 (by omega) (hw 2 (of_decide_eq_true (by kernel_rfl)))
      have HK := Lib.hid (fZ W3 g _ (aN (dS po ho) po n2) (.agg (aJ ho)) (.agg (aS po 64).toArray) (.agg (aJ (dS po ho))) _ rfl hI 3 (v := (.pointer (some ⟨g, 0, none⟩))) (by omega) hL (by omega) ho2 hG rfl)
      clear hI hF hfact hG ho2 hw hL hi
      refine aA (v := (.pointer (some ⟨g, 0, none⟩))) (w' := wi) rfl rfl ?_ HK.out
      go_simp
     ·have e1 : x.tmps[38]?.getD undef = .pointer (some ⟨g, 0, none⟩) := hfact 3 (by omega) (hw 3 (of_decide_eq_true (by kernel_rfl)))
      have HK := Lib.hid (fZ W3 g _ (aN (dS po ho) po n2) (.agg (aJ ho)) (.agg (aS po 64).toArray) (.agg (aJ (dS po ho))) _ rfl hI 4 (v := (.agg (aJ ho))) (by omega) hL (by omega) ho2 hG rfl)
      have HLd := Lib.hid (fA (P := Tryz.prog) (ty := 204) (off := 0) (cs := aJ ho) ho2 (fun j v h => qB h) (fun w => by kernel_rfl) (fun w => by rw [show (aJ ho).size = 5 from rfl]; kernel_rfl))
      clear hI hF hfact hG ho2 hw hL hi
      exact aA (v := (.agg (aJ ho))) (w' := wi) rfl rfl (pM (p := (.pointer (some ⟨g, 0, none⟩))) rfl (by simp [Act.eval, e1]) HLd.out) HK.out
     ·have e0 : x.tmps[0]?.getD undef = .pointer (some ⟨g, 0, none⟩) := hF.get 0 (by omega)
      have HK := Lib.hid (fZ W3 g _ (aN (dS po ho) po n2) (.agg (aJ ho)) (.agg (aS po 64).toArray) (.agg (aJ (dS po ho))) _ rfl hI 5 (v := (.pointer (some ⟨g, 0, none⟩))) (by omega) hL (by omega) ho2 hG rfl)
      clear hI hF hfact hG ho2 hw hL hi
      refine aA (v := (.pointer (some ⟨g, 0, none⟩))) (w' := wi) rfl rfl ?_ HK.out
      go_simp
     ·have e1 : x.tmps[40]?.getD undef = .pointer (some ⟨g, 0, none⟩) := hfact 5 (by omega) (hw 5 (of_decide_eq_true (by kernel_rfl)))
      have HK := Lib.hid (fZ W3 g _ (aN (dS po ho) po n2) (.agg (aJ ho)) (.agg (aS po 64).toArray) (.agg (aJ (dS po ho))) _ rfl hI 6 (v := (.pointer (some ⟨g, 0, none⟩))) (by omega) hL (by omega) ho2 hG rfl)
      clear hI hF hfact hG ho2 hw hL hi
      refine aA (v := (.pointer (some ⟨g, 0, none⟩))) (w' := wi) rfl rfl ?_ HK.out
      go_simp
     ·have e1 : x.tmps[41]?.getD undef = .pointer (some ⟨g, 0, none⟩) := hfact 6 (by omega) (hw 6 (of_decide_eq_true (by kernel_rfl)))
      have HK := Lib.hid (fZ W3 g _ (aN (dS po ho) po n2) (.agg (aJ ho)) (.agg (aS po 64).toArray) (.agg (aJ (dS po ho))) _ rfl hI 7 (v := (.pointer (some ⟨g, 5, none⟩))) (by omega) hL (by omega) ho2 hG rfl)
      clear hI hF hfact hG ho2 hw hL hi
      refine aA (v := (.pointer (some ⟨g, 5, none⟩))) (w' := wi) rfl rfl ?_ HK.out
      go_simp
     ·have e1 : x.tmps[42]?.getD undef = .pointer (some ⟨g, 5, none⟩) := hfact 7 (by omega) (hw 7 (of_decide_eq_true (by kernel_rfl)))
      have HK := Lib.hid (fZ W3 g _ (aN (dS po ho) po n2) (.agg (aJ ho)) (.agg (aS po 64).toArray) (.agg (aJ (dS po ho))) _ rfl hI 8 (v := (.agg (aS po 64).toArray)) (by omega) hL (by omega) ho2 hG rfl)
      have HLd := Lib.hid (fA (P := Tryz.prog) (ty := 205) (off := 5) (cs := (aS po 64).toArray) ho2 (fun j v h => Cp h) (fun w => by kernel_rfl) (fun w => by rw [show (aS po 64).toArray.size = 64 by simp [kA]]; kernel_rfl))
      clear hI hF hfact hG ho2 hw hL hi
      exact aA (v := (.agg (aS po 64).toArray)) (w' := wi) rfl rfl (pM (p := (.pointer (some ⟨g, 5, none⟩))) rfl (by simp [Act.eval, e1]) HLd.out) HK.out
     ·have e1 : x.tmps[39]?.getD undef = .agg (aJ ho) := hfact 4 (by omega) (hw 4 (of_decide_eq_true (by kernel_rfl)))
      have e2 : x.tmps[43]?.getD undef = .agg (aS po 64).toArray := hfact 8 (by omega) (hw 8 (of_decide_eq_true (by kernel_rfl)))
      have HC := Lib.hid ((Mo po ho wi hokh).mono (fun e w'' ⟨he, h2⟩ => show ∃ v, e = Ending.returned v /\ xF W3 g (aN ho po n2) (aN (dS po ho) po n2) (.agg (aJ ho)) (.agg (aS po 64).toArray) (.agg (aJ (dS po ho))) _ (fun j => if 9 = j then true else L j) (x.put (some (35 + 9)) v) w'' from
       ⟨_, he, fZ W3 g _ _ _ _ _ _ rfl hI 9 _ (by omega) hL (by omega) (ho2.below h2 ho2.lt) (dH hG (Rf (cT h2 (Nat.le_refl _)))) rfl⟩))
      clear hI hF hfact hG ho2 hw hL hi
      refine aP rfl rfl ?_ HC.out
      go_simp
     ·have e1 : x.tmps[35]?.getD undef = .pointer (some ⟨g, 0, none⟩) := hfact 0 (by omega) (hw 0 (of_decide_eq_true (by kernel_rfl)))
      have HK := Lib.hid (fZ W3 g _ (aN (dS po ho) po n2) (.agg (aJ ho)) (.agg (aS po 64).toArray) (.agg (aJ (dS po ho))) _ rfl hI 10 (v := (.pointer (some ⟨g, 0, none⟩))) (by omega) hL (by omega) ho2 hG rfl)
      clear hI hF hfact hG ho2 hw hL hi
      refine aA (v := (.pointer (some ⟨g, 0, none⟩))) (w' := wi) rfl rfl ?_ HK.out
      go_simp
     ·have e1 : x.tmps[45]?.getD undef = .pointer (some ⟨g, 0, none⟩) := hfact 10 (by omega) (hw 10 (of_decide_eq_true (by kernel_rfl)))
      have HK := Lib.hid (fZ W3 g _ (aN (dS po ho) po n2) (.agg (aJ ho)) (.agg (aS po 64).toArray) (.agg (aJ (dS po ho))) _ rfl hI 11 (v := (.pointer (some ⟨g, 0, none⟩))) (by omega) hL (fun _ => hw 10 (of_decide_eq_true (by kernel_rfl))) ho2 hG rfl)
      clear hI hF hfact hG ho2 hw hL hi
      refine aA (v := (.pointer (some ⟨g, 0, none⟩))) (w' := wi) rfl rfl ?_ HK.out
      go_simp
   ·have hz0 : ((z : Int) == 0) = false := by rw [beq_eq_false_iff_ne]; omega
    go_wp2_with fail
    go_roundw
    case rel =>
     refine ⟨m' ++ r.data.toList.take k, r2, rfl, ?_, ?_, jK HG2.out 69 _⟩
     ·rw [<- HM.out, List.append_assoc, HR.out, rQ, List.take_append_drop]
     ·refine Rm HP.out (by rw [<- Lib.size_eq]; exact hk1) (by have := HN.out; have := HZ.out; omega) ?_
      rw [<- HO.out.2, <- HN.out.2, <- HO.out.1, <- HN.out.1, <- HZ.out.1]
      have := HB2.out.put 69 (.int .i64 (n2 : Int))
      rwa [oG] at this
    case measure =>
     show r2.size < r.size
     rw [HR.out, ByteArray.size_extract]
     omega
set_option maxRecDepth 100000
set_option maxHeartbeats 2000000
theorem Hu (w : World) (SC : Array Value) {j : Nat} {y : Int} (hj : j < 5) (h : SC[j]? = some (.int .u32 y)) : (Instr.index 204 (.agg SC) (.int .i64 (j : Int))).run Tryz.prog w = .ok (.int .u32 y) w := by
 have hu : Tryz.prog.underlying 204 = some (.array 5 132) := by kernel_rfl
 have ha : ∀ w, (isAgg 132).run Tryz.prog w = .ok false w := fun w => by kernel_rfl
 have hs : ∀ w, (sizeOf 132).run Tryz.prog w = .ok 1 w := fun w => by kernel_rfl
 have hjI : (j : Int) < 5 := by omega
 simp [Instr.index, asIntOf, Sem.run_bind, run_underlying hu, Result.andThen, hs, part, ha, h, hj]
theorem Hv (l : List UInt8) (y : Nat) : Lib.byteCells l ++ [Value.int .u8 ((y : Int) / 16777216 % 256), .int .u8 ((y : Int) / 65536 % 256), .int .u8 ((y : Int) / 256 % 256), .int .u8 ((y : Int) % 256)] = Lib.byteCells (l ++ aX y 4) := by
 have e3 := fS y (8 * 3)
 have e2 := fS y (8 * 2)
 have e1 := fS y (8 * 1)
 have e0 := fS y (8 * 0)
 rw [show (2 : Int) ^ (8 * 3) = 16777216 from rfl] at e3
 rw [show (2 : Int) ^ (8 * 2) = 65536 from rfl] at e2
 rw [show (2 : Int) ^ (8 * 1) = 256 from rfl] at e1
 rw [show (2 : Int) ^ (8 * 0) = 1 from rfl, Int.ediv_one] at e0
 rw [e3, e2, e1, e0]
 simp [Lib.byteCells, aX]
theorem uD (s : St) {j : Nat} (h : j < 5) : ((s.words.take j).flatMap fun x => aX x 4).length = 4 * j := by
 match j, h with
 | 0, _ => rfl
 | 1, _ => rfl
 | 2, _ => rfl
 | 3, _ => rfl
 | 4, _ => rfl
theorem xD (s : St) : s.words.flatMap (fun x => aX x 4) = s.text := by unfold St.words St.text; simp
theorem Rk (g : Nat) (s : St) (p : Nat -> UInt8) (n : Nat) (w : World) (h : aG w g 207 (aN s p n)) :
  Calls Tryz.prog 151 #[.pointer (some ⟨g, 0, none⟩)] w fun e w' => e = .returned (.string ⟨s.text.toArray⟩) /\ Below w.heap.size w w' := by
 obtain ⟨i0, hi, hz0, hz1, hz2⟩ := info_parts iL
 have H := Lib.hid h
 clear h
 have hc : ∀ i, i < 5 -> w.cell? ⟨g, i, none⟩ = some (.int .u32 ((s.words.getD i 0 : Nat) : Int)) := fun i hi => by
  rw [H.out.cell]
  unfold aN
  rw [List.getElem?_toArray, nA hi]
  match i, hi with
  | 0, _ => rfl
  | 1, _ => rfl
  | 2, _ => rfl
  | 3, _ => rfl
  | 4, _ => rfl
 clear hc
 obtain ⟨w1, hmk, hown, hbw⟩ := run_make_own (P := Tryz.prog) (w := w) w.heap.size 79 5 i0 (.int .u8 0) 1 Tryz.underlying79 hi hz0 hz1 .i64 .i64 20 (by rw [hz2]; omega) (by unfold maxLen; omega) (Nat.le_refl _)
 have hmk : (Instr.makeSlice 79 (.int .i64 0) (.int .i64 20)).run Tryz.prog w = .ok (.slice (some ⟨w.heap.size, 0, none⟩) 0 20) w1 := hmk
 obtain ⟨SC, hSC⟩ : ∃ SC, SC = aJ s := ⟨_, rfl⟩
 have HL : Hid ((Instr.loadAt 204 (.pointer (some ⟨g, 0, none⟩))).run Tryz.prog w1 = .ok (.agg SC) w1) := by
  rw [hSC]
  exact Lib.hid (fA (P := Tryz.prog) (ty := 204) (off := 0) (cs := aJ s) (H.out.grown hbw (by simp)) (fun j v h => qB h) (fun w => by kernel_rfl) (fun w => by rw [show (aJ s).size = 5 from rfl]; kernel_rfl))
 have HOWN := Lib.hid hown
 have hbw' : Below w.heap.size w w1 := fH hbw
 have HB := Lib.hid hbw'
 clear hown hbw hbw'
 have HSC := Lib.hid hSC
 have hSs : SC.size = 5 := by rw [hSC]; rfl
 clear hSC
 go_enter Tryz.func151, Tryz.ntmps151
 go_upto_region 2 with fail
 refine wp_region_lit ?_
 refine aK (v := .pointer (some ⟨g, 0, none⟩)) (w' := w1) rfl (by go_simp) ?_
 refine aK (v := .pointer (some ⟨g, 0, none⟩)) (w' := w1) rfl (by go_simp) ?_
 refine aK (v := .pointer (some ⟨g, 0, none⟩)) (w' := w1) rfl (by go_simp) ?_
 refine cZ rfl rfl rfl HL.out ?_
 go_wp2_with fail
 clear hmk
 go_loopw [3, 11] (fun b i wr => ∃ j : Nat, j <= 5 /\ i = .int .i64 j /\ wr.ownsRow w.heap.size 5 1 b (4 * j) (Lib.byteCells ((s.words.take j).flatMap fun x => aX x 4)) /\ Below w.heap.size w wr) (fun _ i _ => 5 - (intOf i).toNat)
 case atStart => exact ⟨0, by omega, rfl, HOWN.out, HB.out⟩
 case round =>
  obtain ⟨j, hj, rfl, hown, hbr⟩ := hrel
  have HOW := Lib.hid hown
  clear hown
  by_cases hlt : j < 5
  ·obtain ⟨y, hy⟩ : ∃ y, y = s.words.getD j 0 := ⟨_, rfl⟩
   have hyj : SC[j]? = some (.int .u32 (y : Int)) := by
    rw [HSC.out, hy]
    match j, hlt with
    | 0, _ => rfl
    | 1, _ => rfl
    | 2, _ => rfl
    | 3, _ => rfl
    | 4, _ => rfl
   have hw5 : s.words[j]? = some y := by
    rw [hy]
    match j, hlt with
    | 0, _ => rfl
    | 1, _ => rfl
    | 2, _ => rfl
    | 3, _ => rfl
    | 4, _ => rfl
   have hltI : (j : Int) < 5 := by omega
   have HT : Hid ((s.words.take (j + 1)).flatMap (fun x => aX x 4) = (s.words.take j).flatMap (fun x => aX x 4) ++ aX y 4) := Lib.hid (by rw [List.take_add_one, hw5]; simp)
   have HLL := Lib.hid (show (Lib.byteCells ((s.words.take j).flatMap fun x => aX x 4)).length = 4 * j by rw [iW]; exact uD s hlt)
   have hix := Hu wr SC hlt hyj
   obtain ⟨l, hl⟩ : ∃ l, l = (s.words.take j).flatMap fun x => aX x 4 := ⟨_, rfl⟩
   rw [<- hl] at HT HOW
   clear hy hw5 hl hyj
   go_wp2_with (at_builtin; refine wpList_append_lies _ rfl (.tmp 14) (.tmp 26) 79 rfl w.heap.size 5 i0 (.int .u8 0) 1 1 Tryz.underlying79 hi hz0 hz1 hz2 rfl (by omega) _ (4 * j) _ rfl (HOW.out.alloc _) ⟨wr.heap.size, 0, none⟩ 4 4 [.int .u8 ((y : Int) / 16777216 % 256), .int .u8 ((y : Int) / 65536 % 256), .int .u8 ((y : Int) / 256 % 256), .int .u8 ((y : Int) % 256)] rfl rfl ?c1 ?c2 (by omega) (by unfold maxLen; omega) (by omega) (by have := hbr.size; simp; omega) _ rfl ?_)
   case c1 =>
    intro a u ha
    match a, ha with
    | 0, ha => simp at ha; subst ha; simp [Addr.add]
    | 1, ha => simp at ha; subst ha; simp [Addr.add]
    | 2, ha => simp at ha; subst ha; simp [Addr.add]
    | 3, ha => simp at ha; subst ha; simp [Addr.add]
   case c2 =>
    intro u hu
    simp only [List.mem_cons, List.not_mem_nil, or_false] at hu
    rcases hu with rfl | rfl | rfl | rfl <;> rfl
   intro g' cap w2 hown1 hg1 hor hlt1
   have hb1 : Below w.heap.size w w2 := (hbr.alloc hbr.size _).grown hg1 (by have := hbr.size; simp; omega) (fun k hk => (HOW.out.lt k hk).1)
   have HB1 := Lib.hid hb1
   rw [Hv, <- HT.out] at hown1
   have HOW2 := Lib.hid hown1
   clear hown1 hg1 hor hb1 hbr hix
   go_wp2
   go_roundw
   case rel => exact ⟨j + 1, by omega, by go_num, by rw [show 4 * (j + 1) = 4 * j + 4 by omega]; exact HOW2.out, HB1.out⟩
   case measure => simp [intOf] <;> omega
  ·obtain rfl : j = 5 := by omega
   have HOW3 := HOW.out
   rw [show s.words.take 5 = s.words from rfl, xD] at HOW3
   obtain ⟨g', cap, rfl, hg0, hlt1⟩ := HOW3.form (by omega)
   have hcv := rN wr _ g' cap _ (4 * 5) (uB s) HOW3
   clear HOW3
   go_wp2
   go_ret
   exact ⟨rfl, hbr⟩
set_option maxRecDepth 100000
set_option maxHeartbeats 2000000
theorem Ej (n : Nat) (w : World) (hn : n <= 1099511627776) :
  Calls Tryz.prog 150 #[.int .i64 n] w fun e w' => e = .returned (.string ⟨(gC n).toArray⟩) /\ Below w.heap.size w w' := by
 obtain ⟨z, hz⟩ : ∃ z, z = oE n := ⟨_, rfl⟩
 have hz64 : z < 64 := by rw [hz]; exact jZ n
 have hm1 : Int.tmod (n : Int) 64 = ((n % 64 : Nat) : Int) := by rw [Int.tmod_eq_emod_of_nonneg (by omega)]; omega
 have hm2 : Int.tmod (119 - ((n % 64 : Nat) : Int)) 64 = (z : Int) := by rw [Int.tmod_eq_emod_of_nonneg (by omega), hz]; unfold oE; omega
 obtain ⟨q, hq⟩ : ∃ q, q = n % 64 := ⟨_, rfl⟩
 rw [<- hq] at hm1 hm2
 have hq64 : q < 64 := by omega
 have HZ := Lib.hid hz
 clear hz hq
 obtain ⟨i0, hi, hz0, hz1, hz2⟩ := info_parts iL
 have hmk := run_makeSlice (P := Tryz.prog) (w := w) 79 5 i0 (.int .u8 0) Tryz.underlying79 hi hz0 .i64 .i64 (1 + (z : Int)) (1 + (z : Int) + 8) (by omega) (by omega) (by rw [hz1]; omega) (by rw [hz2]; omega) (by omega)
 have hmc : madeCells (Value.int .u8 0).cells ((1 + (z : Int) + 8).toNat * i0.size) = (List.replicate (z + 9) (Value.int .u8 0)).toArray := by
  rw [hz1, Nat.mul_one, show (1 + (z : Int) + 8).toNat = z + 9 by omega]
  refine Array.toList_inj.1 ?_
  rw [show (Value.int .u8 0).cells = #[Value.int .u8 0] from rfl, toList_madeCells_one]
 rw [hmc, show (1 + (z : Int)).toNat = z + 1 by omega, show (1 + (z : Int) + 8).toNat = z + 9 by omega] at hmk
 have b1 := aG.new w 5 (List.replicate (z + 9) (Value.int .u8 0)).toArray
 have hb1 : Below w.heap.size w (w.alloc (.cells (List.replicate (z + 9) (Value.int .u8 0)).toArray 5)) := (Below.refl _ _).alloc (Nat.le_refl _) _
 obtain ⟨W1, hW1⟩ : ∃ W1, W1 = w.alloc (.cells (List.replicate (z + 9) (Value.int .u8 0)).toArray 5) := ⟨_, rfl⟩
 rw [<- hW1] at hmk b1 hb1
 clear hW1 hmc
 have hc0 : W1.cell? ⟨w.heap.size, 0, none⟩ = some (.int .u8 0) := by rw [b1.cell, List.getElem?_toArray, List.getElem?_replicate, if_pos (by omega)]
 have hf0 := b1.frozen 0
 have HB1 := Lib.hid b1
 have HBB := Lib.hid hb1
 clear b1 hb1
 go_enter Tryz.func150, Tryz.ntmps150
 go_wp2_with fail
 have hown : (W1.setCell ⟨w.heap.size, 0, none⟩ (.int .u8 128)).ownsRow w.heap.size 5 1 (.slice (some ⟨w.heap.size, 0, none⟩) (z + 1) (z + 9)) (z + 1) (Lib.byteCells (128 :: List.replicate z 0)) := by
  refine ⟨by simp [Lib.byteCells], Or.inr ⟨w.heap.size, z + 9, _, rfl, Nat.le_refl _, HB1.out.put 0 _, by omega, by unfold maxLen; omega, by simp, ?_⟩⟩
  rw [List.setIfInBounds_toArray, List.toList_toArray, show z + 9 = (z + 8) + 1 by omega, List.replicate_succ, List.set_cons_zero, Nat.mul_one, List.take_succ_cons, List.take_replicate, Nat.min_eq_left (by omega)]
  simp [Lib.byteCells]
 have HOWN := Lib.hid hown
 have hbb : Below w.heap.size w (W1.setCell ⟨w.heap.size, 0, none⟩ (.int .u8 128)) := HBB.out.setCell (by simp) _
 have HB := Lib.hid hbb
 clear hown hbb hc0 hf0
 go_loopw [4, 24] (fun b i wr => ∃ j : Nat, j <= 8 /\ i = .int .i64 j /\ wr.ownsRow w.heap.size 5 1 b (z + 1 + j) (Lib.byteCells (128 :: (List.replicate z 0 ++ (aX (8 * n) 8).take j))) /\ Below w.heap.size w wr) (fun _ i _ => 8 - (intOf i).toNat)
 case atStart => exact ⟨0, by omega, rfl, by simpa using HOWN.out, HB.out⟩
 case round =>
  clear HOWN HB
  obtain ⟨j, hj, rfl, hown, hbr⟩ := hrel
  have HOWN := Lib.hid hown
  clear hown
  by_cases hlt : j < 8
  ·obtain ⟨N, hN⟩ : ∃ N, N = 8 * n := ⟨_, rfl⟩
   have hNI : (8 : Int) * (n : Int) = (N : Int) := by omega
   have HT := Lib.hid (wS (8 * n) 8 j hlt)
   rw [show 8 - 1 - j = 7 - j by omega, <- hN] at HT
   rw [<- hN] at HOWN
   have HN := Lib.hid hN
   clear hN
   have HLL := Lib.hid (show (Lib.byteCells (128 :: (List.replicate z 0 ++ (aX N 8).take j))).length = z + 1 + j by rw [iW, List.length_cons, List.length_append, List.length_replicate, List.length_take, cF]; omega)
   go_wp2_with (at_builtin; refine wpList_append_lies _ rfl (.tmp 27) (.tmp 35) 79 rfl w.heap.size 5 i0 (.int .u8 0) 1 1 Tryz.underlying79 hi hz0 hz1 hz2 rfl (by omega) _ (z + 1 + j) _ rfl (HOWN.out.alloc _) ⟨wr.heap.size, 0, none⟩ 1 1 [.int .u8 ((N : Int) / 2 ^ (8 * (7 - j)) % 256)] rfl rfl ?c1 ?c2 (by omega) (by unfold maxLen; omega) (by omega) (by have := hbr.size; simp; omega) _ rfl ?_)
   case c1 =>
    intro a u ha
    match a, ha with
    | 0, ha => simp at ha; subst ha; simp [Addr.add]
   case c2 => intro u hu; simp at hu; subst hu; rfl
   intro g cap w1 hown1 hg1 hor hlt1
   have hb1 : Below w.heap.size w w1 := (hbr.alloc hbr.size _).grown hg1 (by have := hbr.size; simp; omega) (fun k hk => (HOWN.out.lt k hk).1)
   have HB2 := Lib.hid hb1
   rw [fS N (8 * (7 - j)), nT, List.cons_append, List.append_assoc, <- HT.out, HN.out] at hown1
   have HOW := Lib.hid hown1
   clear hown1 hg1 hor hb1 hbr
   go_wp2
   go_roundw
   case rel => exact ⟨j + 1, by omega, by go_num, HOW.out, HB2.out⟩
   case measure => simp [intOf] <;> omega
  ·obtain rfl : j = 8 := by omega
   have HOW3 := HOWN.out
   have ht : (aX (8 * n) 8).take 8 = aX (8 * n) 8 := List.take_of_length_le (by rw [cF]; exact Nat.le_refl _)
   rw [ht] at HOW3
   obtain ⟨g, cap, rfl, hg0, hlt1⟩ := HOW3.form (by omega)
   have hcv := rN wr _ g cap _ (z + 1 + 8) (by simp [cF]) HOW3
   have HPd : Hid (gC n = 128 :: (List.replicate z 0 ++ aX (8 * n) 8)) := Lib.hid (by rw [HZ.out]; rfl)
   clear HOW3 ht
   go_wp2
   go_ret
   exact ⟨by rw [HPd.out]; rfl, hbr⟩
set_option maxRecDepth 100000
set_option maxHeartbeats 4000000
def gY (left x : Int) : Int := if left < 0 \/ left < x then -1 else left - x
theorem Rq (left x : Int) (b : Nat) (w : World) (hc : w.cell? ⟨b, 0, none⟩ = some (.int .i64 x)) (h0 : -1 <= left) (h1 : left <= 1000000) (h2 : 0 <= x) (_h3 : x <= 9223372036854775807) :
  Calls Tryz.prog 24 #[.int .i64 left, .slice (some ⟨b, 0, none⟩) 1 1] w fun e w' => e = .returned (.int .i64 (gY left x)) /\ w = w' := by
 go_enter Tryz.func24, Tryz.ntmps24
 go_wp2_with fail
 by_cases hneg : left < 0
 ·have hr : gY left x = -1 := by unfold gY; rw [if_pos (.inl hneg)]
  have HR := Lib.hid hr
  clear hr
  go_loop [0, 5] (fun v i => v = .int .i64 left /\ i = .int .i64 0) (fun _ i => 1 - (intOf i).toNat)
  case atStart => exact ⟨rfl, rfl⟩
  case round =>
   obtain ⟨rfl, rfl⟩ := hrel
   go_wp2_with fail
   go_ret
   rw [HR.out]
   exact ⟨rfl, rfl⟩
 ·by_cases hbig : left < x
  ·have hr : gY left x = -1 := by unfold gY; rw [if_pos (.inr hbig)]
   have HR := Lib.hid hr
   have hpos : 0 <= left := by omega
   clear hr hneg
   go_loop [0, 5] (fun v i => v = .int .i64 left /\ i = .int .i64 0) (fun _ i => 1 - (intOf i).toNat)
   case atStart => exact ⟨rfl, rfl⟩
   case round =>
    obtain ⟨rfl, rfl⟩ := hrel
    go_wp2_with fail
    go_ret
    rw [HR.out]
    exact ⟨rfl, rfl⟩
  ·have hr : gY left x = left - x := by unfold gY; rw [if_neg (by omega)]
   have HR := Lib.hid hr
   have hpos : 0 <= left := by omega
   have hle : x <= left := by omega
   clear hr hneg hbig
   go_loop [0, 5] (fun v i => (v = .int .i64 left /\ i = .int .i64 0) \/ (v = .int .i64 (left - x) /\ i = .int .i64 1)) (fun _ i => 1 - (intOf i).toNat)
   case atStart => exact .inl ⟨rfl, rfl⟩
   case round =>
    rcases hrel with ⟨rfl, rfl⟩ | ⟨rfl, rfl⟩
    ·go_wp2_with fail
     go_round
     case rel => exact .inr ⟨rfl, rfl⟩
     case measure => simp [intOf]
    ·go_wp2_with fail
     go_ret
     rw [HR.out]
     exact ⟨rfl, rfl⟩
def Mr (few room : Int) (xs : List ByteArray) (e : Ending) : Prop := ∃ r : Bool, e = .returned (.bool r) /\ (r = true -> (xs.length : Int) <= few /\ ((aW xs).length : Int) <= room)
theorem Mt (few room : Int) (A : Option Addr) (m c : Nat) (xs : List ByteArray) (w : World) (hm : xs.length = m) (hx : dL w w.heap.size A xs) (hsz : ∀ x ∈ xs, x.size <= 9223372036854775807) (hl : m <= 9223372036854775807)
  (hf0 : 0 <= few) (hf1 : few <= 1000000) (hr0 : 0 <= room) (hr1 : room <= 1000000) :
  Calls Tryz.prog 6 #[.int .i64 few, .int .i64 room, .slice A m c] w fun e w' => Mr few room xs e /\ Below w.heap.size w w' := by
 have HX := Lib.hid hx
 have HZ := Lib.hid hsz
 have HM := Lib.hid hm
 clear hx hsz hm
 by_cases hfew : few < (m : Int)
 ·go_enter Tryz.func6, Tryz.ntmps6
  go_wp2_with fail
  go_ret
  exact ⟨⟨false, rfl, fun h => by cases h⟩, Below.refl _ _⟩
 ·have hle : (m : Int) <= few := by omega
  clear hfew
  go_enter Tryz.func6, Tryz.ntmps6
  go_wp2_with fail
  go_loopw [1, 7] (fun v i wr => ∃ (r : Int) (j : Nat), j <= m /\ i = .int .i64 j /\ v = .int .i64 r /\ -1 <= r /\ r <= 1000000 /\ (0 <= r -> r + (aW (xs.take j)).length = room) /\ Below w.heap.size w wr) (fun _ i _ => m - (intOf i).toNat)
  case atStart => exact ⟨room, 0, Nat.zero_le _, rfl, rfl, by omega, hr1, fun _ => by simp [aW], Below.refl _ _⟩
  case round =>
   obtain ⟨r, j, hj, rfl, rfl, r0, r1, hsum, hbr⟩ := hrel
   have HSUM := Lib.hid hsum
   clear hsum
   by_cases hlt : j < m
   ·by_cases hneg : 0 <= r
    ·have hxl : j < xs.length := by rw [HM.out]; exact hlt
     obtain ⟨b, off, hA, hbB, hc⟩ := HX.out (by omega)
     obtain ⟨x, hx⟩ : ∃ x, x = xs[j] := ⟨_, rfl⟩
     have hxj : xs[j]? = some x := by rw [hx]; exact List.getElem?_eq_getElem hxl
     have hcx : wr.cell? ⟨b, off + j, none⟩ = some (.string x) := (hbr.cell (p := ⟨b, off + j, none⟩) hbB).trans (hc j x hxj)
     have hsx := HZ.out x (by rw [hx]; exact List.getElem_mem hxl)
     have E1 := Lib.hid (gM hxj)
     clear hxj hc hx
     subst hA
     go_wp2_with fail
     refine (Rq r x.size wr.heap.size _ (by simp [go_sem]) r0 r1 (by omega) (by omega)).mono ?_
     rintro e w1 ⟨rfl, rfl⟩
     obtain ⟨q, hq⟩ : ∃ q, q = gY r x.size := ⟨_, rfl⟩
     rw [<- hq]
     have hq0 : -1 <= q /\ q <= 1000000 /\ (0 <= q -> q = r - x.size) := by
      rw [hq]
      unfold gY
      split <;> refine ⟨by omega, by omega, fun h => ?_⟩ <;> omega
     obtain ⟨q0, q1, q2⟩ := hq0
     have HQ := Lib.hid q2
     clear hq q2
     have hb1 : Below w.heap.size w (wr.alloc (.cells #[.int .i64 x.size] 3)) := hbr.alloc hbr.size _
     go_wp2_with fail
     go_roundw
     case rel => exact ⟨q, j + 1, by omega, by go_num, rfl, q0, q1, fun h => by rw [E1.out, List.length_append, <- Lib.size_eq, HQ.out h]; have := HSUM.out hneg; omega, hb1⟩
     case measure => simp [intOf]; omega
    ·have hneg' : r < 0 := by omega
     have hd : decide (0 <= r) = false := by simpa using hneg'
     clear hneg
     go_wp2_with fail
     go_ret
     exact ⟨⟨false, by simp, fun h => by cases h⟩, hbr⟩
   ·obtain rfl : j = m := by omega
    have htk : xs.take j = xs := List.take_of_length_le (by rw [HM.out]; exact Nat.le_refl _)
    rw [htk] at HSUM
    clear htk
    go_wp2_with fail
    go_ret
    exact ⟨⟨decide (0 <= r), rfl, fun h => ⟨by rw [HM.out]; exact hle, by have := HSUM.out (by simpa using h); have := of_decide_eq_true h; omega⟩⟩, hbr⟩
def eE (xs : List ByteArray) : ByteArray := ⟨(aW xs).toArray⟩
theorem oH (xs : List ByteArray) : (eE xs).data.toList = aW xs := rfl
theorem jC (xs : List ByteArray) : (eE xs).size = (aW xs).length := by rw [Lib.size_eq]; rfl
theorem Ek {xs : List ByteArray} {j : Nat} {x : ByteArray} (h : xs[j]? = some x) : eE (xs.take j) ++ x = eE (xs.take (j + 1)) := by
 apply ByteArray.ext
 apply Array.toList_inj.1
 rw [ByteArray.data_append, Array.toList_append, oH, oH, gM h]
theorem Rr (A : Option Addr) (m c : Nat) (xs : List ByteArray) (w : World) (hm : xs.length = m) (hx : dL w w.heap.size A xs) (hl : m <= 1000000) (hs : (aW xs).length <= 140737488351232) :
  Calls Tryz.prog 9 #[.slice A m c] w fun e w' => e = .returned (.string (eE xs)) /\ w = w' := by
 have HX := Lib.hid hx
 have HM := Lib.hid hm
 have HS := Lib.hid hs
 clear hx hm hs
 go_enter Tryz.func9, Tryz.ntmps9
 go_wp2_with fail
 go_loop [3, 4] (fun v i => ∃ j : Nat, j <= m /\ i = .int .i64 j /\ v = .string (eE (xs.take j))) (fun _ i => m - (intOf i).toNat)
 case atStart => exact ⟨0, Nat.zero_le _, rfl, rfl⟩
 case round =>
  obtain ⟨j, hj, rfl, rfl⟩ := hrel
  by_cases hlt : j < m
  ·have hxl : j < xs.length := by rw [HM.out]; exact hlt
   obtain ⟨b, off, hA, hbB, hc⟩ := HX.out (by omega)
   obtain ⟨x, hx⟩ : ∃ x, x = xs[j] := ⟨_, rfl⟩
   have hxj : xs[j]? = some x := by rw [hx]; exact List.getElem?_eq_getElem hxl
   have hcx : w.cell? ⟨b, off + j, none⟩ = some (.string x) := hc j x hxj
   have E1 := Lib.hid (Ek hxj)
   have hsz : (eE (xs.take j)).size + x.size <= 9223372036854775807 := by have := kH hxj; have := HS.out; rw [jC]; omega
   obtain ⟨J, hJ⟩ : ∃ J, J = eE (xs.take j) := ⟨_, rfl⟩
   rw [<- hJ] at hsz ⊢
   have HJ := Lib.hid hJ
   clear hxj hc hx hJ
   subst hA
   go_wp2_with fail
   go_round
   case rel => exact ⟨j + 1, by omega, by go_num, by rw [<- E1.out, HJ.out]⟩
   case measure => simp [intOf]; omega
  ·obtain rfl : j = m := by omega
   have htk : xs.take j = xs := List.take_of_length_le (by rw [HM.out]; exact Nat.le_refl _)
   rw [htk]
   clear htk
   go_wp2_with fail
   go_ret
   exact ⟨rfl, rfl⟩
theorem Av : (Tryz.prog.info? 9).map (fun i => (i.zero, i.size, i.bytes)) = some (some (.string .empty), 1, 16) := by kernel_rfl
theorem El {w : World} {B b off : Nat} {xs : List ByteArray} (hc : ∀ (j : Nat) (x : ByteArray), xs[j]? = some x -> w.cell? ⟨b, off + j, none⟩ = some (.string x)) (_hB : b < B) :
  ∀ (j : Nat) (u : Value), (xs.map Value.string)[j]? = some u -> w.cell? ((⟨b, off, none⟩ : Addr).add j) = some u := by
 intro j u hu
 rw [List.getElem?_map] at hu
 obtain ⟨x, hx, rfl⟩ := Option.map_eq_some_iff.1 hu
 rw [Go.WideShapes.add_plain]
 exact hc j x hx
theorem Rs (A : Option Addr) (m c : Nat) (xs : List ByteArray) (w : World) (hm : xs.length = m) (hx : dL w w.heap.size A xs) (hl : m <= 1000000) (h0 : A = none -> c = 0) :
  Calls Tryz.prog 27 #[.slice A m c] w fun e w' => ∃ v, e = .returned v /\ w'.ownsRow w.heap.size 9 1 v m (xs.map Value.string) /\ Below w.heap.size w w' := by
 obtain ⟨i0, hi, hz0, hz1, hz2⟩ := info_parts Av
 have HX := Lib.hid hx
 have HM := Lib.hid hm
 have H0 := Lib.hid h0
 clear hx hm h0
 rcases A with _ | ad
 ·obtain rfl : c = 0 := H0.out rfl
  have hm0 : m = 0 := by
   rcases Nat.eq_zero_or_pos m with h | h
   ·exact h
   ·obtain ⟨b, off, e, _⟩ := HX.out (by rw [HM.out]; exact h)
    cases e
  subst hm0
  have hxs : xs = [] := List.eq_nil_of_length_eq_zero HM.out
  subst hxs
  go_enter Tryz.func27, Tryz.ntmps27
  go_wp2_with (at_builtin; refine wpList_append_own_none rfl _ _ 22 rfl w.heap.size 9 i0 1 Tryz.underlying22 hi (.slice none 0 0) 0 [] rfl (World.ownsRow_nil _ _ _ _) rfl ?_)
  go_ret
  exact ⟨_, rfl, World.ownsRow_nil _ _ _ _, Below.refl _ _⟩
 ·have hnews : ∀ (j : Nat) (u : Value), (xs.map Value.string)[j]? = some u -> w.cell? (ad.add j) = some u := by
   intro j u hu
   have hj : j < xs.length := by
    rcases Nat.lt_or_ge j xs.length with h | h
    ·exact h
    ·rw [List.getElem?_eq_none (by rw [List.length_map]; exact h)] at hu; cases hu
   obtain ⟨b, off, e, hB, hc⟩ := HX.out (by omega)
   injection e with e
   subst e
   exact El hc hB j u hu
  have hone : ∀ u ∈ xs.map Value.string, u.oneCell' = true := by
   intro u hu
   obtain ⟨x, _, rfl⟩ := List.mem_map.1 hu
   rfl
  have HN := Lib.hid hnews
  have HO := Lib.hid hone
  clear hnews hone
  go_enter Tryz.func27, Tryz.ntmps27
  go_wp2_with (at_builtin; refine wpList_append_own _ rfl _ _ 22 rfl w.heap.size 9 i0 (.string .empty) 1 16 Tryz.underlying22 hi hz0 hz1 hz2 rfl (by omega) (.slice none 0 0) 0 [] rfl (World.ownsRow_nil _ _ _ _) ad m c (xs.map Value.string) rfl (by rw [List.length_map, HM.out]; omega) HN.out HO.out (by unfold maxLen; omega) (by omega) (Nat.le_refl _) ?_; intro v1 w1 hown1 hg1 _)
  have hb1 : Below w.heap.size w w1 := (Below.refl _ _).grown hg1 (Nat.le_refl _) (by simp [Value.ownBlock])
  clear hg1
  have HOW := Lib.hid hown1
  clear hown1
  go_wp2_with fail
  go_ret
  exact ⟨v1, rfl, by simpa using HOW.out, hb1⟩
def Em (w : World) (B g cap : Nat) (xs : List ByteArray) : Prop :=
 B <= g /\ g < w.heap.size /\ xs.length + 1 <= cap /\ cap <= 9223372036854775807 /\ ∀ (j : Nat) (x : ByteArray), (xs ++ [⟨#[109, 97, 114, 107]⟩])[j]? = some x -> w.cell? ⟨g, j, none⟩ = some (.string x)
theorem Em.txts {w : World} {B g cap : Nat} {xs : List ByteArray} (h : Em w B g cap xs) : dL w w.heap.size (some ⟨g, 0, none⟩) xs := by
 obtain ⟨h0, h1, h2, h3, h4⟩ := h
 intro _
 refine ⟨g, 0, rfl, h1, fun j x hx => ?_⟩
 rw [Nat.zero_add]
 have hj : j < xs.length := by
  rcases Nat.lt_or_ge j xs.length with h | h
  ·exact h
  ·rw [List.getElem?_eq_none h] at hx; cases hx
 exact h4 j x (by rw [List.getElem?_append_left hj]; exact hx)
theorem Rt (A : Option Addr) (m c : Nat) (xs : List ByteArray) (w : World) (hm : xs.length = m) (hx : dL w w.heap.size A xs) (hl : m <= 900000) (h0 : A = none -> c = 0) :
  Calls Tryz.prog 10 #[.slice A m c] w fun e w' => ∃ g cap, e = .returned (.slice (some ⟨g, 0, none⟩) m cap) /\ Em w' w.heap.size g cap xs /\ Below w.heap.size w w' := by
 obtain ⟨i0, hi, hz0, hz1, hz2⟩ := info_parts Av
 have HC := Lib.hid (Rs A m c xs w hm hx (by omega) h0)
 have HM := Lib.hid hm
 clear hx hm h0
 go_enter Tryz.func10, Tryz.ntmps10
 go_wp2_with fail
 refine HC.out.mono ?_
 rintro e w1 ⟨v, rfl, hown, hb1⟩
 have HOWN := Lib.hid hown
 clear hown
 go_wp2_with (at_builtin; refine wpList_append_lies _ rfl (.tmp 4) (.tmp 5) 22 rfl w.heap.size 9 i0 (.string .empty) 1 16 Tryz.underlying22 hi hz0 hz1 hz2 rfl (by omega) _ m _ rfl (HOWN.out.alloc _) ⟨w1.heap.size, 0, none⟩ 1 1 [.string ⟨#[109, 97, 114, 107]⟩] rfl rfl ?c1 ?c2 (by omega) (by unfold maxLen; omega) (by omega) (by have := hb1.size; simp; omega) _ rfl ?_)
 case c1 =>
  intro a u ha
  match a, ha with
  | 0, ha => simp at ha; subst ha; simp [Addr.add]
 case c2 => intro u hu; simp at hu; subst hu; rfl
 intro g cap w2 hown2 hg2 hor hlt2
 have hb2 : Below w.heap.size w w2 := (hb1.alloc hb1.size _).grown hg2 (by have := hb1.size; simp; omega) (fun k hk => (HOWN.out.lt k hk).1)
 have hform : m + 1 <= cap /\ cap <= 9223372036854775807 /\ w.heap.size <= g := by
  rcases hown2.2 with ⟨h, _⟩ | ⟨g', cap', cur, h, hg', _, h1, h2, _⟩
  ·cases h
  ·injection h with e1 e2 e3
   injection e1 with e1
   injection e1 with e1
   subst e1 e3
   exact ⟨h1, h2, hg'⟩
 obtain ⟨hc1, hc2, hc3⟩ := hform
 have hlent : Em w2 w.heap.size g cap xs := by
  refine ⟨hc3, hlt2, by rw [HM.out]; exact hc1, hc2, fun j x hx => ?_⟩
  have := hown2.cells (g := g) rfl j (.string x) (by
   rw [show xs.map Value.string ++ [Value.string ⟨#[109, 97, 114, 107]⟩] = (xs ++ [(⟨#[109, 97, 114, 107]⟩ : ByteArray)]).map Value.string by simp, List.getElem?_map, hx]
   rfl)
  rw [Go.WideShapes.add_plain, Nat.zero_add] at this
  exact this
 have HL := Lib.hid hlent
 clear hlent hown2 hg2 hor hb1
 go_wp2_with fail
 go_ret
 exact ⟨g, cap, rfl, HL.out, hb2⟩
theorem Ru (A B : Option Addr) (m c d : Nat) (xs : List ByteArray) (w : World) (hm : xs.length = m) (hx : dL w w.heap.size A xs) (hy : dL w w.heap.size B xs) (hl : m <= 1000000) :
  Calls Tryz.prog 31 #[.slice A m c, .slice B m d] w fun e w' => e = .returned (.bool true) /\ ∃ n, w' = w.drewN n := by
 have HX := Lib.hid hx
 have HY := Lib.hid hy
 have HM := Lib.hid hm
 clear hx hm hy
 go_enter Tryz.func31, Tryz.ntmps31
 go_wp2_with fail
 go_loopw [5] (fun i wr => ∃ (j n : Nat), j <= m /\ i = .int .i64 j /\ wr = w.drewN n) (fun i _ => m - (intOf i).toNat)
 case atStart => exact ⟨0, 0, Nat.zero_le _, rfl, rfl⟩
 case round =>
  obtain ⟨j, n, hj, rfl, rfl⟩ := hrel
  by_cases hlt : j < m
  ·have hxl : j < xs.length := by rw [HM.out]; exact hlt
   obtain ⟨b, off, hA, hbB, hc⟩ := HX.out (by omega)
   obtain ⟨b', off', hA', hbB', hc'⟩ := HY.out (by omega)
   obtain ⟨x, hx⟩ : ∃ x, x = xs[j] := ⟨_, rfl⟩
   have hxj : xs[j]? = some x := by rw [hx]; exact List.getElem?_eq_getElem hxl
   have hcx : w.cell? ⟨b, off + j, none⟩ = some (.string x) := hc j x hxj
   have hcy : w.cell? ⟨b', off' + j, none⟩ = some (.string x) := hc' j x hxj
   clear hxj hc hx hc'
   subst hA
   subst hA'
   go_wp2_with fail
   go_quiet (fail)
   go_wp2_with fail
   go_roundw
   case rel => exact ⟨j + 1, _, by omega, by go_num, rfl⟩
   case measure => simp [intOf]; omega
  ·obtain rfl : j = m := by omega
   go_wp2_with fail
   go_ret
   exact ⟨rfl, _, rfl⟩
theorem Mu (g cap : Nat) (A : Option Addr) (m d : Nat) (xs : List ByteArray) (B0 : Nat) (w : World) (hm : xs.length = m) (hL : Em w B0 g cap xs) (hx : dL w w.heap.size A xs) (hl : m <= 1000000) :
  Calls Tryz.prog 12 #[.slice (some ⟨g, 0, none⟩) m cap, .slice A m d] w fun e w' => e = .returned (.bool true) /\ ∃ n, w' = w.drewN n := by
 have HS := Lib.hid (Ru (some ⟨g, 0, none⟩) A m cap d xs w hm hL.txts hx hl)
 obtain ⟨h0, h1, h2, h3, h4⟩ := hL
 have hc : w.cell? ⟨g, m, none⟩ = some (.string ⟨#[109, 97, 114, 107]⟩) := h4 m _ (by rw [List.getElem?_append_right (by omega), hm, Nat.sub_self]; rfl)
 have h2' : m + 1 <= cap := by omega
 clear hx hm h0 h4 h2
 go_enter Tryz.func12, Tryz.ntmps12
 go_wp2_with fail
 refine HS.out.mono ?_
 rintro e w1 ⟨rfl, n, rfl⟩
 go_wp2_with fail
 go_ret
 exact ⟨rfl, n, rfl⟩
end Go.Proofs.YtingkbeifohihaaGreatDoor
