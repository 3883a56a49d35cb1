/-
  A disk's Write, Arm. No statement is proved here.
-/
import Derived.Test.YtingkbeifohihaaGreatDoorDiskCrash
import Derived.BigCall
import Derived.Lib.SliceRun
import Derived.Deep.AppendLies
import Derived.Test.YtingkbeifohihaaGreatDoorRegionApp
namespace Go.Proofs.YtingkbeifohihaaGreatDoor
open Go.RowKit
set_option maxRecDepth 100000
set_option maxHeartbeats 1000000
theorem sH : (Tryz.prog.info? 9).map (fun i => (i.zero, i.size, i.bytes)) = some (some (.string .empty), 1, 16) := by kernel_rfl
theorem Fv (A : Option Addr) (m c : Nat) (l : List ByteArray) (w : World) (hl : l.length = m) (hA : ∀ ad, A = some ad -> ∀ (j : Nat) (u : Value), (l.map Value.string)[j]? = some u -> w.cell? (ad.add j) = some u) (h0 : A = none -> m = 0 /\ c = 0) (hm : m <= 1000000000000) :
  Calls Tryz.prog 52 #[.slice A m c] w fun e w' => ∃ v, e = .returned v /\ w'.ownsRow w.heap.size 9 1 v m (l.map Value.string) /\ Below w.heap.size w w' := by
 obtain ⟨i0, hi, hz0, hz1, hz2⟩ := info_parts sH
 have HM := Lib.hid hl
 have H0 := Lib.hid h0
 rcases A with _ | ad
 ·obtain ⟨rfl, rfl⟩ := h0 rfl
  have hxs : l = [] := List.eq_nil_of_length_eq_zero hl
  subst hxs
  have q : ∀ w, (binOp .eql 22 (.slice none 0 0) (.slice none 0 0)).run Tryz.prog w = .ok (.bool true) w := fun w => Lib.run_eql_slice_nil w 22 _ none 0 0 0 0 Tryz.underlying22
  clear hA h0 hl
  go_enter Tryz.func52, Tryz.ntmps52
  go_wp2_with fail
  go_ret
  exact ⟨_, rfl, World.ownsRow_nil _ _ _ _, Below.refl _ _⟩
 ·have hone : ∀ u ∈ (l.map Value.string), u.oneCell' = true := by
   intro u hu
   obtain ⟨x, _, rfl⟩ := List.mem_map.1 hu
   rfl
  have HN := Lib.hid (hA ad rfl)
  have HO := Lib.hid hone
  have HE : Hid ((w.alloc (.cells #[] 9)).ownsRow w.heap.size 9 1 (.slice (some ⟨w.heap.size, 0, none⟩) 0 0) 0 []) := Lib.hid (World.ownsRow_made w #[] 0 (Nat.le_refl _) (by decide) rfl)
  have HC : Hid ((l.map Value.string).length = m * 1) := Lib.hid (by rw [List.length_map, hl]; omega)
  have HB : Hid (Below w.heap.size w (w.alloc (.cells #[] 9))) := Lib.hid ((Below.refl _ _).alloc (Nat.le_refl _) _)
  have HNN : Hid (∀ (j : Nat) (u : Value), (l.map Value.string)[j]? = some u -> (w.alloc (.cells #[] 9)).cell? (ad.add j) = some u) := Lib.hid (fun j u hu => by
   have h1 := HN.out j u hu
   have hlt := World.block_lt_of_cell? w _ h1
   rw [World.cell?_of_block (Below.heap_alloc w _ _ hlt)]
   exact h1)
  have q : ∀ w, (binOp .eql 22 (.slice (some ad) m c) (.slice none 0 0)).run Tryz.prog w = .ok (.bool false) w := fun w => Lib.run_eql_slice_nil w 22 _ (some ad) m c 0 0 Tryz.underlying22
  clear hA h0 hone hl
  go_enter Tryz.func52, Tryz.ntmps52
  go_wp2_with (at_builtin; refine wpList_append_own _ rfl _ _ 22 rfl w.heap.size 9 i0 (.string .empty) 1 16 Tryz.underlying22 hi hz0 hz1 hz2 rfl (by omega) (.slice (some ⟨w.heap.size, 0, none⟩) 0 0) 0 [] rfl HE.out ad m c (l.map Value.string) rfl HC.out HNN.out HO.out (by unfold maxLen; omega) (by omega) (by simp) ?_; intro v1 w1 hown1 hg1 _)
  have hb1 : Below w.heap.size w w1 := HB.out.grown hg1 (by simp) (by simp [Value.ownBlock])
  have HOW := Lib.hid hown1
  clear hown1 hg1
  go_ret
  exact ⟨v1, rfl, by simpa using HOW.out, hb1⟩
theorem uV : (Tryz.prog.info? 3).map (fun i => (i.zero, i.size, i.bytes)) = some (some (.int .i64 0), 1, 8) := by kernel_rfl
theorem qF : (Tryz.prog.info? 74).map (fun i => (i.zero, i.size, i.bytes)) = some (some (.agg #[.int .i64 0, .string .empty]), 2, 24) := by kernel_rfl
def iC (lo k : Nat) (V : Nat -> Value) (t : Array Value) : Array Value := (List.range k).foldl (fun t i => t.setIfInBounds (lo + i) (V i)) t
theorem Fw (lo k : Nat) (V : Nat -> Value) (t : Array Value) : (iC lo k V t).size = t.size := by
 unfold iC
 induction k with
 | zero => rfl
 | succ k ih => rw [List.range_succ, List.foldl_append]; simpa using ih
theorem Je (lo k : Nat) (V : Nat -> Value) (t : Array Value) (h : lo + k <= t.size) (s : Nat) : (iC lo k V t)[s]? = if lo <= s /\ s < lo + k then some (V (s - lo)) else t[s]? := by
 induction k with
 | zero => rw [if_neg (by omega)]; rfl
 | succ k ih =>
   have ih := ih (by omega)
   have e : iC lo (k + 1) V t = (iC lo k V t).setIfInBounds (lo + k) (V k) := by unfold iC; rw [List.range_succ, List.foldl_append]; rfl
   rw [e]
   by_cases hs : lo + k = s
   ·subst hs
    rw [Array.getElem?_setIfInBounds_self, if_pos (by rw [Fw]; omega), if_pos (by omega)]
    congr 2
    omega
   ·rw [Array.getElem?_setIfInBounds_ne hs, ih]
    by_cases hc : lo <= s /\ s < lo + k
    ·rw [if_pos hc, if_pos (by omega)]
    ·rw [if_neg hc, if_neg (by omega)]
theorem Bo {a x : Act} {lo k hi : Nat} {V : Nat -> Value} (h : bI a lo hi x) (hhi : lo + k = hi + 1) (hlo : lo + k <= a.tmps.size) (hv : ∀ j, j < k -> x.tmps[lo + j]?.getD undef = V j) : x = ⟨iC lo k V a.tmps, a.defers⟩ := by
 obtain ⟨X, D⟩ := x
 obtain ⟨h1, h2, h3⟩ := h
 obtain rfl : D = a.defers := h1
 congr 1
 apply Array.ext_getElem?
 intro s
 rw [Je _ _ _ _ hlo]
 by_cases hs : lo <= s /\ s < lo + k
 ·rw [if_pos hs]
  have := hv (s - lo) (by omega)
  rw [show lo + (s - lo) = s by omega] at this
  have hlt : s < X.size := by have : X.size = a.tmps.size := h2; omega
  rw [Array.getElem?_eq_getElem hlt] at this ⊢
  exact congrArg some this
 ·rw [if_neg hs]
  exact h3 s (by omega)
theorem oS {P : Program} {o : Oper} {x : Act} {s1 s2 : Operand} {t : TypeId} {v1 v2 v : Value} {w w' : World} (ho : o.op = .call { callee := .builtin .append, args := #[s1, s2], argTypes := #[t, t] }) (h1 : x.eval s1 = v1) (h2 : x.eval s2 = v2)
  (hr : (Builtin.append_ #[t, t] o.type #[v1, v2]).run P w = .ok v w') : (execOp x.eval o).run P w = .ok (.value v) w' := by
 unfold execOp
 simp only [ho, resolve, invoke, builtin, Sem.run_bind, Sem.run_pure, Result.andThen_ok, List.map_toArray, List.map_cons, List.map_nil, h1, h2, hr]
theorem nX {P : Program} {ops : Array Oper} {Q : Exit -> Act -> World -> Prop} (lo k hi m : Nat) (V : Nat -> Value) (J : (Nat -> Bool) -> World -> Prop) {id : Nat} {a : Act} {w : World}
  (hm : P.follows .mixedOrders = true) (he : nU .any ops = true) (hsz : ops.size = k + m) (hm0 : 0 < m) (hsink : (List.range' k m).all (fun i => wZ ops i) = true) (hhi : lo + k = hi + 1) (hlo : lo + k <= a.tmps.size)
  (h0 : J (fun _ => false) w.drew)
  (hops : ∀ i, i < k -> ∀ (L : Nat -> Bool) (x : Act) (w' : World), (∀ n, L n = true -> ∀ j ∈ aQ .any ops n, L j = true) -> bI a lo hi x -> L i = false -> J L w' -> (∀ j ∈ aQ .any ops i, L j = true) -> (∀ j ∈ aQ .any ops i, j < k -> x.tmps[lo + j]?.getD undef = V j) -> wpOp P ops Q i (fun x' w'' => x' = x.put (some (lo + i)) (V i) /\ J (fun j => if i = j then true else L j) w'') x w')
  (hrest : ∀ (L : Nat -> Bool) (w' : World), (∀ j, j < k -> L j = true) -> J L w' -> wpOps P ops Q (List.range' k m) ⟨iC lo k V a.tmps, a.defers⟩ w') : (Code.region id ops true).wp P Q a w := by
 have hsk : ∀ i, k <= i -> i < k + m -> wZ ops i = true := fun i h1 h2 => List.all_eq_true.1 hsink i (by rw [List.mem_range'_1]; omega)
 have hcl : ∀ (L : Nat -> Bool) (i : Nat), (∀ i, L i = true -> ∀ j ∈ aQ .any ops i, L j = true) -> (∀ j ∈ aQ .any ops i, L j = true) -> ∀ n, (fun j => if i = j then true else L j) n = true -> ∀ j ∈ aQ .any ops n, (fun j => if i = j then true else L j) j = true := by
  intro L i h1 h2 n hn j hj
  by_cases hij : i = j
  ·simp [hij]
  ·simp only [if_neg hij]
   by_cases hin : i = n
   ·subst hin; exact h2 j hj
   ·simp only [if_neg hin] at hn
    exact h1 n hn j hj
 refine cJ (fun L x w => (∀ i, L i = true -> ∀ j ∈ aQ .any ops i, L j = true) /\
  (((∀ i, k <= i -> L i = false) /\ bI a lo hi x /\ Hr k lo (fun i v => v = V i) L x /\ J L w) \/
    ∃ t, k < t /\ t <= k + m /\ (∀ i, i < t -> L i = true) /\ (∀ i, t <= i -> L i = false) /\ wpOps P ops Q (List.range' t (k + m - t)) x w)) hm he ?_ ?_ ?_
 ·exact ⟨(fun _ h => by cases h), .inl ⟨fun _ _ => rfl, bI.refl _ _ _, (fun _ _ h => by cases h), h0⟩⟩
 ·intro L x w' i ⟨hc, hI⟩ hi hLi hw
  have hc' := hcl L i hc hw
  rcases hI with ⟨hno, hF, hL, hJ⟩ | ⟨t, ht1, ht2, hyes, hno, hO⟩
  ·by_cases hik : i < k
   ·refine wpOp_mono (fun x' w'' h => ?_) (hops i hik L x w' hc hF hLi hJ hw (fun j hj hjk => hL j hjk (hw j hj)))
    obtain ⟨rfl, hj'⟩ := h
    refine ⟨hc', .inl ⟨fun n hn => ?_, hF.put _ _ (by omega) (by omega), hL.next i (V i) (by rw [hF.2.1]; omega) (fun _ _ _ _ hu => hu) rfl, hj'⟩⟩
    simp only [if_neg (show ¬ i = n by omega)]
    exact hno n hn
   ·have hall := gO (L := fun j => if i = j then true else L j) (hsk i (by omega) (by omega)) hc' (by simp)
    have hik2 : i = k := by
     rcases Nat.lt_or_ge k i with h | h
     ·have := hall k h
      simp only [if_neg (show ¬ i = k by omega), hno k (Nat.le_refl _)] at this
      cases this
     ·omega
    subst hik2
    have hallL : ∀ j, j < i -> L j = true := fun j hj => by
     have := hall j hj
     simpa [show i ≠ j by omega] using this
    have hx := Bo hF hhi hlo (fun j hj => hL j hj (hallL j hj))
    have hr := hrest L w' hallL hJ
    rw [<- hx] at hr
    obtain ⟨m', rfl⟩ : ∃ m', m = m' + 1 := ⟨m - 1, by omega⟩
    rw [List.range'_succ, wpOps_cons] at hr
    refine wpOp_mono (fun x' w'' h => ⟨hc', .inr ⟨i + 1, by omega, by omega, fun j hj => ?_, fun j hj => ?_, ?_⟩⟩) hr
    ·by_cases e : i = j
     ·simp [e]
     ·simp only [if_neg e]; exact hallL j (by omega)
    ·simp only [if_neg (show ¬ i = j by omega)]; exact hno j (by omega)
    ·rw [show i + (m' + 1) - (i + 1) = m' by omega]; exact h
  ·have hit : i = t := by
    have h1 : t <= i := by
     rcases Nat.lt_or_ge i t with h | h
     ·rw [hyes i h] at hLi; cases hLi
     ·exact h
    rcases Nat.lt_or_ge t i with h | h
    ·have := gO (L := fun j => if i = j then true else L j) (hsk i (by omega) (by omega)) hc' (by simp) t h
     simp only [if_neg (show ¬ i = t by omega), hno t (Nat.le_refl _)] at this
     cases this
    ·omega
   subst hit
   obtain ⟨d, hd⟩ : ∃ d, k + m - i = d + 1 := ⟨k + m - i - 1, by omega⟩
   rw [hd, List.range'_succ, wpOps_cons] at hO
   refine wpOp_mono (fun x' w'' h => ⟨hc', .inr ⟨i + 1, by omega, by omega, fun j hj => ?_, fun j hj => ?_, ?_⟩⟩) hO
   ·by_cases e : i = j
    ·simp [e]
    ·simp only [if_neg e]; exact hyes j (by omega)
   ·simp only [if_neg (show ¬ i = j by omega)]; exact hno j (by omega)
   ·rw [show k + m - (i + 1) = d by omega]; exact h
 ·intro L x w' ⟨_, hI⟩ hall
  rcases hI with ⟨hno, _⟩ | ⟨t, ht1, ht2, _, hno, hO⟩
  ·have := hall k (by omega)
   rw [hno k (Nat.le_refl _)] at this
   cases this
  ·have e : t = k + m := by
    rcases Nat.lt_or_ge t (k + m) with h | h
    ·have := hall t (by omega)
     rw [hno t (Nat.le_refl _)] at this
     cases this
    ·omega
   subst e
   rw [Nat.sub_self] at hO
   exact hO
set_option maxRecDepth 100000
set_option maxHeartbeats 4000000
theorem cW.keeps {w : World} {g gn gs cn cs : Nat} {vd : Value} {p : Option Addr} {m c : Nat} {S : DS} (h : cW w g gn gs cn cs vd (.slice p m c) S) : S.keep.length = m /\ Yp w p S.keep /\ Lt p S.keep [g, gn, gs] := by
 have ha := h.apart
 simp only [List.nodup_cons, List.mem_cons, List.mem_append, not_or] at ha
 have hl : S.keep.length = m := by
  rcases h.keep.2 with ⟨e, e2⟩ | ⟨_, _, _, e, _⟩
  ·injection e with _ e _; omega
  ·injection e with _ e _; omega
 refine ⟨hl, ?_, ?_⟩
 ·intro hp
  obtain ⟨gk, cap, e, _, hlt⟩ := h.keep.form hp
  injection e with e1 e2 e3
  subst e1 e2 e3
  refine ⟨gk, 0, rfl, hlt, fun j x hx => ?_⟩
  rw [Nat.zero_add]
  exact dY (by rw [hl] at *; exact h.keep) (by rw [List.getElem?_map, hx]; rfl)
 ·intro hp a e hm
  subst e
  simp only [List.mem_cons, List.not_mem_nil, or_false] at hm
  rcases hm with hm | hm | hm
  ·exact ha.1.2.2.2 (by rw [<- hm]; simp [Value.ownBlock])
  ·exact ha.2.1.2.2 (by rw [<- hm]; simp [Value.ownBlock])
  ·exact ha.2.2.1.2 (by rw [<- hm]; simp [Value.ownBlock])
theorem yB {w : World} {O : List Nat} {g : Nat} {S : DS} (h : bE w O g S) (hok : S.Ok) (hon : S.on = true) (hlb : S.left <= 9223372036854775807) :
  Calls Tryz.prog 141 #[.pointer (some ⟨g, 0, none⟩)] w fun e w' => e = .returned (.bool S.fails) /\ dC O g S.failed w w' := by
 obtain ⟨gn, gs, cn, cs, vd, vk, rfl, h⟩ := h
 obtain ⟨p, c, rfl, _⟩ := iR h.keep
 have H := Lib.hid h
 have c5 := h.blk.cell 5
 have c6 := h.blk.cell 6
 have c7 := h.blk.cell 7
 have f6 := h.blk.frozen 6
 have hl := h.blk.lt
 simp at c5 c6 c7
 by_cases ha : S.armed = true
 ·rw [ha] at c5
  by_cases h0 : 0 < S.left
  ·have R1 : S.fails = false := by unfold DS.fails; simp; omega
   have R2 : S.failed = { S with left := S.left - 1 } := by unfold DS.failed; rw [if_pos ha, if_pos h0]
   rw [R1, R2]
   obtain ⟨n, hn⟩ : ∃ n : Int, n = (S.left : Int) := ⟨_, rfl⟩
   have HN := Lib.hid hn
   have hn0 : 0 < n := by omega
   have hn1 : n <= 9223372036854775807 := by omega
   rw [<- hn] at c6
   clear R1 R2 h hn h0 ha hon hlb
   go_enter Tryz.func141, Tryz.ntmps141
   go_wp2
   go_ret
   refine ⟨rfl, _, ⟨gn, gs, cn, cs, vd, _, rfl, H.out.put_plain S.on S.armed S.writes (S.left - 1) _ ?_ ((aR.refl _ _).put (.inl (by simp)) _ _)⟩, fun b hb => .inl hb, (aR.refl _ _).put (.inl (by simp)) _ _⟩
   have hb := H.out.blk.put 6 (.int .i64 (n - 1))
   have e : n - 1 = ((S.left - 1 : Nat) : Int) := by have := HN.out; omega
   rw [e] at hb ⊢
   exact hb
  ·have hz : S.left = 0 := by omega
   have R1 : S.fails = true := by unfold DS.fails; simp [ha, hz]
   have R2 : S.failed = S.crash S.keep := by unfold DS.failed; rw [if_pos ha, if_neg h0]
   rw [R1, R2]
   obtain ⟨k1, k2, k3⟩ := h.keeps
   have HC := Lib.hid (Oc p S.keep.length c S.keep h hok hon rfl k2 k3)
   rw [hz] at c6
   clear R1 R2 h h0 hz k1 k2 k3 hok hlb hon
   go_enter Tryz.func141, Tryz.ntmps141
   go_wp2_with (go_at_call 178; refine HC.out.mono ?_; rintro e w1 ⟨rfl, hT⟩)
   go_ret
   exact ⟨rfl, hT⟩
 ·have R1 : S.fails = false := by unfold DS.fails; simp [ha]
  have R2 : S.failed = S := by unfold DS.failed; rw [if_neg ha]
  rw [R1, R2]
  have hf : S.armed = false := by simpa using ha
  rw [hf] at c5
  clear R1 R2 h ha hf hok hlb hon
  go_enter Tryz.func141, Tryz.ntmps141
  go_wp2
  go_ret
  exact ⟨rfl, dC.refl ⟨gn, gs, cn, cs, vd, _, rfl, H.out⟩⟩
theorem Zl {w : World} {g gn gs cn cs : Nat} {vd vk : Value} {S : DS} (h : cW w g gn gs cn cs vd vk S) (i : Nat) (data : ByteArray) :
  cW (w.setCell ⟨gn, i, none⟩ (.string data)) g gn gs cn cs vd vk { S with now := S.now.set i data } := by
 have ha := h.apart
 simp only [List.nodup_cons, List.mem_cons, List.mem_append, not_or] at ha
 have e : (S.now.set i data).length = S.now.length := by simp
 refine ⟨?_, ?_, fE h.safe ?_ _, fE h.dirty ?_ _, fE h.keep ?_ _, h.apart⟩
 ·show aG _ g _ #[.slice (some ⟨gn, 0, none⟩) (S.now.set i data).length cn, _, _, _, _, _, _, _]
  rw [e]
  exact h.blk.far (by exact ha.1.1) _
 ·show World.ownsRow _ 0 _ 1 (.slice (some ⟨gn, 0, none⟩) (S.now.set i data).length cn) (S.now.set i data).length ((S.now.set i data).map Value.string)
  rw [e, List.map_set]
  exact wH h.now _
 ·intro e; cases e; exact ha.2.1.1 rfl
 ·intro e; exact ha.2.1.2.1 (by simp [e])
 ·intro e; exact ha.2.1.2.2 (by simp [e])
theorem Zm {w wf : World} {g gn gs cn cs gd cap : Nat} {vd vk : Value} {S : DS} (h : cW w g gn gs cn cs vd vk S) (x : Nat × ByteArray) (hk : aR vd.ownBlock.toList w wf)
  (hown : wf.ownsRow 0 74 2 (.slice (some ⟨gd, 0, none⟩) (S.dirty.length + 1) cap) (S.dirty.length + 1) (mS S.dirty ++ [.int .i64 ((x.1 : Nat) : Int), .string x.2])) (hor : vd.ownBlock = some gd \/ w.heap.size <= gd) :
  cW ((wf.setCell ⟨g, 2, none⟩ (.slice (some ⟨gd, 0, none⟩) (S.dirty.length + 1) cap)).setCell ⟨g, 4, none⟩ (.int .i64 ((S.writes : Int) + 1))) g gn gs cn cs (.slice (some ⟨gd, 0, none⟩) (S.dirty.length + 1) cap) vk { S with dirty := S.dirty ++ [x], writes := S.writes + 1 } := by
 have ha := h.apart
 simp only [List.nodup_cons, List.mem_cons, List.mem_append, not_or] at ha
 have hgd : ∀ b, b < w.heap.size -> b ∉ vd.ownBlock.toList -> b ≠ gd := by
  intro b hb hn e
  subst e
  rcases hor with hor | hor
  ·exact hn (by simp [hor])
  ·omega
 have hgg : g ≠ gd := hgd g h.blk.lt ha.1.2.2.1
 have hb : aG wf g 107 #[.slice (some ⟨gn, 0, none⟩) S.now.length cn, .slice (some ⟨gs, 0, none⟩) S.safe.length cs, vd, .bool S.on, .int .i64 (S.writes : Int), .bool S.armed, .int .i64 (S.left : Int), vk] :=
  (hk.block g h.blk.lt ha.1.2.2.1).trans h.blk
 have far : ∀ {v : Value} {e : TypeId} {size n : Nat} {xs : List Value} (u1 u2 : Value), wf.ownsRow 0 e size v n xs -> v.ownBlock ≠ some g -> ((wf.setCell ⟨g, 2, none⟩ u1).setCell ⟨g, 4, none⟩ u2).ownsRow 0 e size v n xs :=
  fun u1 u2 hr hn => fE (fE hr hn _) hn _
 have hdis : ∀ b ∈ vk.ownBlock.toList, b ∉ vd.ownBlock.toList := by
  intro b hb hd
  have := ha.2.2.2
  rw [List.nodup_append] at this
  exact this.2.2 b hd b hb rfl
 refine ⟨?_, far _ _ (bR h.now hk ?_) ?_, far _ _ (bR h.safe hk ?_) ?_, ?_, far _ _ (bR h.keep hk ?_) ?_, ?_⟩
 ·have := (hb.put 2 (.slice (some ⟨gd, 0, none⟩) (S.dirty.length + 1) cap)).put 4 (.int .i64 ((S.writes : Int) + 1))
  show aG _ g _ #[_, _, _, _, .int .i64 ((S.writes + 1 : Nat) : Int), _, _, _]
  rw [show ((S.writes + 1 : Nat) : Int) = (S.writes : Int) + 1 by omega]
  exact this
 ·intro k e hm; cases e; exact ha.2.1.2.1 hm
 ·intro e; cases e; exact ha.1.1 rfl
 ·intro k e hm; cases e; exact ha.2.2.1.1 hm
 ·intro e; cases e; exact ha.1.2.1 rfl
 ·show World.ownsRow _ 0 _ 2 _ (S.dirty ++ [x]).length (mS (S.dirty ++ [x]))
  rw [List.length_append, List.length_singleton, Iy]
  exact far _ _ hown (by intro e; cases e; exact hgg rfl)
 ·intro k e hm; exact hdis k (by simp [e]) hm
 ·intro e; exact ha.1.2.2.2 (by simp [e])
 ·have n1 := hgd gn (nM h.now (by simp [Value.ownBlock])) ha.2.1.2.1
  have n2 := hgd gs (nM h.safe (by simp [Value.ownBlock])) ha.2.2.1.1
  simp only [List.nodup_cons, List.mem_cons, not_or, Value.ownBlock, Option.toList_some, List.singleton_append]
  refine ⟨⟨ha.1.1, ha.1.2.1, hgg, ha.1.2.2.2⟩, ⟨ha.2.1.1, n1, ha.2.1.2.2⟩, ⟨n2, ha.2.2.1.2⟩, ?_, ?_⟩
  ·intro hm
   exact hgd gd (nM h.keep hm) (hdis gd hm) rfl
  ·exact (List.nodup_append.1 ha.2.2.2).2.1
theorem Th {w : World} {g gn gs cn cs : Nat} {vd vk : Value} {S : DS} (i : Nat) (data : ByteArray) (h : cW w g gn gs cn cs vd vk S) (hok : S.Ok) (hon : S.on = true) (hi : i < S.now.length) (hd : data.size = 256) (hlb : S.left <= 9223372036854775807) (hwb : S.writes < 1000000000000) (hdb : S.dirty.length < 1000000000000) :
  Calls Tryz.prog 140 #[.pointer (some ⟨g, 0, none⟩), .agg #[.int .i64 (i : Int), .string data]] w fun e w' => e = .returned (.int .i64 (if (S.put i data).fails then 14 else 0)) /\ dC (g :: gn :: gs :: (vd.ownBlock.toList ++ vk.ownBlock.toList)) g (S.put i data).failed w w' := by
 obtain ⟨pd, cd, rfl, _⟩ := iR h.dirty
 obtain ⟨ee, hee⟩ : ∃ ee : Int, ee = if (S.put i data).fails then 14 else 0 := ⟨_, rfl⟩
 rw [<- hee]
 have HEE := Lib.hid hee
 clear hee
 have HH : Hid (∀ W : World, cW W g gn gs cn cs (.slice pd S.dirty.length cd) vk S -> Calls Tryz.prog 174 #[.pointer (some ⟨g, 0, none⟩), .int .i64 (i : Int)] W fun e w' => e = .returned (.bool true) /\ W = w') := Lib.hid (fun W hW => by
  have := oR (w := W) (S := S) (i : Int) ⟨gn, gs, cn, cs, _, vk, rfl, hW⟩
  rwa [show decide (0 <= (i : Int) /\ (i : Int) < (S.now.length : Int)) = true by simpa using hi] at this)
 have H := Lib.hid h
 have HOK := Lib.hid hok
 have HD : Hid (data.size <= 281474976710656) := Lib.hid (by omega)
 have hdI : (data.size : Int) = 256 := by omega
 have HI := Lib.hid hi
 clear h hok hi hd
 go_enter Tryz.func140, Tryz.ntmps140
 go_wp2_with fail
 refine (HH.out _ (H.out.kept (fun b hb => Below.heap_alloc _ _ _ (H.out.lt hb)))).mono ?_
 rintro e w1 ⟨rfl, rfl⟩
 go_wp2_with fail
 refine (iK data _ HD.out).mono ?_
 rintro e w2 ⟨rfl, hb2⟩
 have bx : aG w2 w.heap.size 74 #[.int .i64 (i : Int), .string data] := (aG.new w _ _).below hb2 (by simp)
 have kx : aR [] w w2 := ((aR.refl [] w).alloc _).below_in hb2
 have x1 := bx.cell 1
 have p1 := bx.frozen 1
 simp at x1
 go_upto_region 6 with fail
 obtain ⟨W, hW⟩ : ∃ W, W = w2.setCell ⟨w.heap.size, 1, none⟩ (.string data) := ⟨_, rfl⟩
 rw [<- hW]
 have bW : aG W w.heap.size 74 #[.int .i64 (i : Int), .string data] := by rw [hW]; exact bx.put 1 _
 have kW : aR [] w W := by rw [hW]; exact kx.put (.inr (Nat.le_refl _)) _ _
 have HW0 : Hid (cW W g gn gs cn cs (.slice pd S.dirty.length cd) vk S) := Lib.hid (H.out.kept (fun b hb => kW.block b (H.out.lt hb) (by simp)))
 have HBW := Lib.hid bW
 have HKW := Lib.hid kW
 have e0 := bW.cell 0
 have e1 := bW.cell 1
 simp at e0 e1
 have g0 := HW0.out.blk.cell 0
 simp at g0
 have q0 := dY HW0.out.now (i := i) (u := .string (S.now.getD i .empty)) (by
  rw [List.getElem?_map, List.getD_eq_getElem?_getD, List.getElem?_eq_getElem HI.out]; rfl)
 have q1 := kR HW0.out.now i
 obtain ⟨X, hX⟩ : ∃ X, X = S.now.getD i .empty := ⟨_, rfl⟩
 rw [<- hX] at q0
 obtain ⟨n, hn⟩ : ∃ n, n = S.now.length := ⟨_, rfl⟩
 have hin : (i : Int) < (n : Int) := by have := HI.out; omega
 rw [<- hn] at g0
 clear hX hn x1 p1 bx kx hb2 hW kW bW
 go_still_tail 9, (by kernel_rfl)
 change wpList _ _ _ _ _ W.drew
 go_upto_region 7 with fail
 clear e0 e1 g0 q0 q1 hin
 obtain ⟨W1, hW1⟩ : ∃ W1, W1 = W.setCell ⟨gn, i, none⟩ (.string data) := ⟨_, rfl⟩
 rw [<- hW1]
 have HD1 : Hid (cW W1 g gn gs cn cs (.slice pd S.dirty.length cd) vk { S with now := S.now.set i data }) := Lib.hid (by rw [hW1]; exact Zl HW0.out i data)
 have hgn : gn < w.heap.size := H.out.lt (by simp)
 have HB1 : Hid (aG W1 w.heap.size 74 #[.int .i64 (i : Int), .string data]) := Lib.hid (by rw [hW1]; exact HBW.out.far (by show w.heap.size ≠ gn; omega) _)
 have HK1 : Hid (aR [gn] w W1) := Lib.hid (by rw [hW1]; exact (HKW.out.mono (by simp)).put (.inl (by simp)) _ _)
 clear hW1 hgn
 obtain ⟨nd, hnd⟩ : ∃ nd, nd = S.dirty.length := ⟨_, rfl⟩
 obtain ⟨i0, hi0, hz0, hz1, hz2⟩ := info_parts qF
 have HE1 : Hid (World.ownsRow W1 0 74 2 (.slice pd nd cd) nd (mS S.dirty)) := Lib.hid (by rw [hnd]; exact HD1.out.dirty)
 obtain ⟨gd, cap, Wf, hrun, hown, hgrow, hor, hlt⟩ := run_append_lies (P := Tryz.prog) (W1.drew.drew.alloc (.cells #[.int .i64 (i : Int), .string data] 74)) 71 71 0 74 i0 (.agg #[.int .i64 0, .string .empty]) 2 24 Tryz.underlying71 hi0 hz0 hz1 hz2 rfl (by omega)
  (.slice pd nd cd) nd (mS S.dirty) ((fI HE1.out (fun _ _ => rfl) : World.ownsRow W1.drew.drew 0 74 2 (.slice pd nd cd) nd (mS S.dirty)).alloc _) ⟨W1.heap.size, 0, none⟩ 1 1 [.int .i64 (i : Int), .string data] rfl
  (World.news_of_block (heap_alloc_new W1.drew.drew (.cells #[.int .i64 (i : Int), .string data] 74))) (by intro u hu; simp at hu; rcases hu with rfl | rfl <;> rfl) (by omega) (by rw [hnd]; unfold maxLen; omega) (by rw [hnd]; omega) (Nat.zero_le _) _ rfl
 have HRUN := Lib.hid hrun
 have HOWN := Lib.hid hown
 have HGR := Lib.hid hgrow
 have HOR := Lib.hid hor
 have hkf : aR (Value.slice pd nd cd).ownBlock.toList W1 Wf := (((aR.refl _ W1).drew.drew).alloc _).by_in hgrow (by intro g e; exact .inl (by simp [e]))
 have HKF := Lib.hid hkf
 have hb1 := HD1.out.blk
 have hdd := HD1.out.apart
 simp only [List.nodup_cons, List.mem_cons, List.mem_append, not_or] at hdd
 have hbx : w.heap.size ∉ (Value.slice pd nd cd).ownBlock.toList := by
  intro hm
  have := H.out.lt (b := w.heap.size) (by rw [<- hnd]; simp only [List.mem_cons, List.mem_append]; exact .inr (.inr (.inr (.inl hm))))
  omega
 have hgx : g ∉ (Value.slice pd nd cd).ownBlock.toList := by rw [hnd]; exact hdd.1.2.2.1
 have HC : Hid (∀ w' : World, (w' = W1.drew.drew \/ w' = W1.drew.drew.alloc (.cells #[.int .i64 (i : Int), .string data] 74) \/ w' = Wf) ->
   w'.cell? ⟨g, 2, none⟩ = some (.slice pd nd cd) /\ w'.cell? ⟨w.heap.size, 0, none⟩ = some (.int .i64 (i : Int)) /\ w'.cell? ⟨w.heap.size, 1, none⟩ = some (.string data)) := Lib.hid (by
  intro w' hw
  have hk : aR (Value.slice pd nd cd).ownBlock.toList W1 w' := by
   rcases hw with rfl | rfl | rfl
   ·exact (aR.refl _ _).drew.drew
   ·exact (aR.refl _ _).drew.drew.alloc _
   ·exact hkf
  have c2 := (show aG w' g 107 _ from (hk.block g hb1.lt hgx).trans hb1).cell 2
  have k0 := (show aG w' w.heap.size 74 _ from (hk.block _ HB1.out.lt hbx).trans HB1.out).cell 0
  have k1 := (show aG w' w.heap.size 74 _ from (hk.block _ HB1.out.lt hbx).trans HB1.out).cell 1
  simp at c2 k0 k1
  rw [<- hnd] at c2
  exact ⟨c2, k0, k1⟩)
 have HGX : Hid (g ∉ (Value.slice pd nd cd).ownBlock.toList) := Lib.hid hgx
 have HND := Lib.hid hnd
 clear hrun hown hgrow hor hkf hb1 hdd hbx hgx hnd
 refine nX 29 8 36 3 (fun | 0 => .pointer (some ⟨g, 0, none⟩) | 1 => .pointer (some ⟨g, 0, none⟩) | 2 => .pointer (some ⟨g, 0, none⟩) | 3 => .pointer (some ⟨g, 2, none⟩) | 4 => .slice pd nd cd | 5 => .agg #[.int .i64 (i : Int), .string data] | 6 => .slice (some ⟨W1.heap.size, 0, none⟩) 1 1 | _ => .slice (some ⟨gd, 0, none⟩) (nd + 1) cap)
  (fun L w' => w' = if L 7 then Wf else if L 6 then W1.drew.drew.alloc (.cells #[.int .i64 (i : Int), .string data] 74) else W1.drew.drew) (by kernel_rfl) (by kernel_rfl) rfl (by omega) (by kernel_rfl) rfl (by simp) rfl ?hops ?hrest
 case hops =>
  intro j hj L x w' hc hF hLj hJ hw hv
  have hJ3 : w' = W1.drew.drew \/ w' = W1.drew.drew.alloc (.cells #[.int .i64 (i : Int), .string data] 74) \/ w' = Wf := by
   rw [hJ]
   split
   ·exact .inr (.inr rfl)
   ·split
    ·exact .inr (.inl rfl)
    ·exact .inl rfl
  obtain ⟨k2, b0, b1⟩ := HC.out w' hJ3
  have HJ := Lib.hid hJ
  clear hJ3 hJ
  rcases (show j = 0 \/ j = 1 \/ j = 2 \/ j = 3 \/ j = 4 \/ j = 5 \/ j = 6 \/ j = 7 by omega) with rfl | rfl | rfl | rfl | rfl | rfl | rfl | rfl
  ·have t0 : x.tmps[0]?.getD undef = .pointer (some ⟨g, 0, none⟩) := by rw [hF.2.2 0 (by omega)]; rfl
   clear hw hv hF
   refine aA (v := .pointer (some ⟨g, 0, none⟩)) (w' := w') rfl rfl ?_ ⟨rfl, HJ.out⟩
   go_simp
  ·have t0 : x.tmps[0]?.getD undef = .pointer (some ⟨g, 0, none⟩) := by rw [hF.2.2 0 (by omega)]; rfl
   clear hw hv hF
   refine aA (v := .pointer (some ⟨g, 0, none⟩)) (w' := w') rfl rfl ?_ ⟨rfl, HJ.out⟩
   go_simp
  ·have t0 : x.tmps[30]?.getD undef = .pointer (some ⟨g, 0, none⟩) := hv 1 (of_decide_eq_true (by kernel_rfl)) (by omega)
   clear hw hv hF
   refine aA (v := .pointer (some ⟨g, 0, none⟩)) (w' := w') rfl rfl ?_ ⟨rfl, HJ.out⟩
   go_simp
  ·have t0 : x.tmps[31]?.getD undef = .pointer (some ⟨g, 0, none⟩) := hv 2 (of_decide_eq_true (by kernel_rfl)) (by omega)
   clear hw hv hF
   refine aA (v := .pointer (some ⟨g, 2, none⟩)) (w' := w') rfl rfl ?_ ⟨rfl, HJ.out⟩
   go_simp
  ·have t0 : x.tmps[32]?.getD undef = .pointer (some ⟨g, 2, none⟩) := hv 3 (of_decide_eq_true (by kernel_rfl)) (by omega)
   clear hw hv hF
   refine aA (v := .slice pd nd cd) (w' := w') rfl rfl ?_ ⟨rfl, HJ.out⟩
   go_simp
  ·have t0 : x.tmps[3]?.getD undef = .pointer (some ⟨w.heap.size, 0, none⟩) := by rw [hF.2.2 3 (by omega)]; rfl
   clear hw hv hF
   refine aA (v := .agg #[.int .i64 (i : Int), .string data]) (w' := w') rfl rfl ?_ ⟨rfl, HJ.out⟩
   go_simp
  ·have h7 : L 7 = false := by
    cases h : L 7 with
    | false => rfl
    | true => rw [hc 7 h 6 (of_decide_eq_true (by kernel_rfl))] at hLj; cases hLj
   have t0 : x.tmps[34]?.getD undef = .agg #[.int .i64 (i : Int), .string data] := hv 5 (of_decide_eq_true (by kernel_rfl)) (by omega)
   have hJ := HJ.out
   rw [h7, hLj] at hJ
   have hJ' : w' = W1.drew.drew := hJ
   subst hJ'
   clear hw hv hF hJ HJ
   refine aA (v := .slice (some ⟨W1.heap.size, 0, none⟩) 1 1) (w' := W1.drew.drew.alloc (.cells #[.int .i64 (i : Int), .string data] 74)) rfl rfl ?_ ⟨rfl, ?_⟩
   ·go_simp
   ·simp [h7]
  ·have h6 : L 6 = true := hw 6 (of_decide_eq_true (by kernel_rfl))
   have t0 : x.tmps[33]?.getD undef = .slice pd nd cd := hv 4 (of_decide_eq_true (by kernel_rfl)) (by omega)
   have t1 : x.tmps[35]?.getD undef = .slice (some ⟨W1.heap.size, 0, none⟩) 1 1 := hv 6 (of_decide_eq_true (by kernel_rfl)) (by omega)
   have hJ := HJ.out
   rw [hLj, h6] at hJ
   have hJ' : w' = W1.drew.drew.alloc (.cells #[.int .i64 (i : Int), .string data] 74) := hJ
   subst hJ'
   refine aA (v := .slice (some ⟨gd, 0, none⟩) (nd + 1) cap) (w' := Wf) rfl rfl (oS rfl (by simpa [Act.eval] using t0) (by simpa [Act.eval] using t1) HRUN.out) ⟨rfl, by simp⟩
 case hrest =>
  intro L w' hL hJ
  rw [hL 7 (by omega)] at hJ
  have hJ' : w' = Wf := hJ
  subst hJ'
  clear hL hJ L
  obtain ⟨k2, _, _⟩ := HC.out w' (.inr (.inr rfl))
  have fg : w'.frozen? ⟨g, 2, none⟩ = false := (World.frozen?_of_block (a := ⟨g, 2, none⟩) (HKF.out.block g HD1.out.blk.lt HGX.out)).trans (HD1.out.blk.frozen 2)
  rw [show List.range' 8 3 = [8, 9, 10] from rfl]
  simp only [iC, List.range, List.range.loop, List.foldl, Nat.reduceAdd, List.setIfInBounds_toArray, List.set_cons_succ, List.set_cons_zero]
  rw [wpOps_cons]
  refine aA (v := .pointer (some ⟨g, 0, none⟩)) (w' := w') rfl rfl (by go_simp) ?_
  rw [wpOps_cons]
  refine aA (v := .pointer (some ⟨g, 2, none⟩)) (w' := w') rfl rfl (by simp only [Act.put, List.setIfInBounds_toArray]; go_simp) ?_
  rw [wpOps_cons]
  refine eC (w' := w'.setCell ⟨g, 2, none⟩ (.slice (some ⟨gd, 0, none⟩) (nd + 1) cap)) rfl rfl (by simp only [Act.put, List.setIfInBounds_toArray]; go_simp) ?_
  simp only [wpOps, Act.put, List.setIfInBounds_toArray]
  clear k2 fg
  obtain ⟨W2, hW2⟩ : ∃ W2, W2 = w'.setCell ⟨g, 2, none⟩ (.slice (some ⟨gd, 0, none⟩) (nd + 1) cap) := ⟨_, rfl⟩
  have b2 := (show aG w' g 107 _ from (HKF.out.block g HD1.out.blk.lt HGX.out).trans HD1.out.blk).put 2 (.slice (some ⟨gd, 0, none⟩) (nd + 1) cap)
  rw [<- hW2] at b2
  rw [<- hW2]
  have k4 := b2.cell 4
  have f4 := b2.frozen 4
  simp at k4
  have HW2 := Lib.hid hW2
  clear b2 hW2
  go_upto_region 9 with fail
  have HD2 : Hid (cW (W2.setCell ⟨g, 4, none⟩ (.int .i64 ((S.writes : Int) + 1))) g gn gs cn cs (.slice (some ⟨gd, 0, none⟩) (nd + 1) cap) vk (S.put i data)) := Lib.hid (by
   rw [HW2.out, HND.out]
   have h1 := HOWN.out
   have h2 := HOR.out
   have h3 := HKF.out
   rw [HND.out] at h1 h2 h3
   refine Zm HD1.out (i, data) h3 h1 ?_
   rcases h2 with h2 | h2
   ·exact .inl h2
   ·exact .inr (by rw [h2]; simp))
  have HKK : Hid (aR (g :: gn :: gs :: ((Value.slice pd nd cd).ownBlock.toList ++ vk.ownBlock.toList)) w (W2.setCell ⟨g, 4, none⟩ (.int .i64 ((S.writes : Int) + 1)))) := Lib.hid (by
   rw [HW2.out]
   refine ((((HK1.out.mono ?_).trans HKF.out ?_).put (.inl (by simp)) _ _).put (.inl (by simp)) _ _)
   ·intro b hb; rw [List.mem_singleton.1 hb]; exact .inl (by simp)
   ·intro b hb; exact .inl (by simp only [List.mem_cons, List.mem_append]; exact .inr (.inr (.inr (.inl hb)))))
  have HGD : Hid (∀ b ∈ g :: gn :: gs :: ((Value.slice (some ⟨gd, 0, none⟩) (nd + 1) cap).ownBlock.toList ++ vk.ownBlock.toList), b ∈ g :: gn :: gs :: ((Value.slice pd nd cd).ownBlock.toList ++ vk.ownBlock.toList) \/ w.heap.size <= b) := Lib.hid (by
   intro b hb
   simp only [List.mem_cons, List.mem_append] at hb ⊢
   rcases hb with hb | hb | hb | hb | hb
   ·exact .inl (.inl hb)
   ·exact .inl (.inr (.inl hb))
   ·exact .inl (.inr (.inr (.inl hb)))
   ·have hbg : b = gd := by simpa [Value.ownBlock] using hb
    rcases HOR.out with h2 | h2
    ·exact .inl (.inr (.inr (.inr (.inl (by rw [hbg, h2]; simp)))))
    ·right
     rw [hbg, h2]
     exact Nat.le_trans HK1.out.size (by simp)
   ·exact .inl (.inr (.inr (.inr (.inr hb)))))
  obtain ⟨W3, hW3⟩ : ∃ W3, W3 = W2.setCell ⟨g, 4, none⟩ (.int .i64 ((S.writes : Int) + 1)) := ⟨_, rfl⟩
  rw [<- hW3] at HD2 HKK
  rw [<- hW3]
  clear hW3 HW2 k4 f4 HOWN HGR HOR HRUN HKF HC HE1 HB1 HD1
  have HFA := Lib.hid (yB (w := W3) ⟨gn, gs, cn, cs, _, vk, rfl, HD2.out⟩ (HOK.out.put HI.out data) hon hlb)
  obtain ⟨bb, hbb⟩ : ∃ bb, bb = (S.put i data).fails := ⟨_, rfl⟩
  rw [<- hbb] at HFA
  have HBB := Lib.hid hbb
  clear hbb
  have HND' := HND.out
  rw [HND'] at HKK HGD HFA
  clear HND'
  cases bb with
  | true =>
    go_wp2_with (go_at_call 141; refine HFA.out.mono ?_; rintro e w3 ⟨rfl, hT⟩)
    go_ret
    rw [HEE.out, <- HBB.out]
    obtain ⟨O3, t1, t2, t3⟩ := hT
    refine ⟨rfl, O3, t1, fun b hb => ?_, HKK.out.trans t3 HGD.out⟩
    rcases t2 b hb with h | h
    ·exact HGD.out b h
    ·exact .inr (by have := HKK.out.size; omega)
  | false =>
    go_wp2_with (go_at_call 141; refine HFA.out.mono ?_; rintro e w3 ⟨rfl, hT⟩)
    go_ret
    rw [HEE.out, <- HBB.out]
    obtain ⟨O3, t1, t2, t3⟩ := hT
    refine ⟨rfl, O3, t1, fun b hb => ?_, HKK.out.trans t3 HGD.out⟩
    rcases t2 b hb with h | h
    ·exact HGD.out b h
    ·exact .inr (by have := HKK.out.size; omega)
set_option maxRecDepth 100000
set_option maxHeartbeats 2000000
theorem Fr {w : World} {O : List Nat} {g : Nat} {S : DS} (at_ : Int) (data : ByteArray) (h : bE w O g S) (hok : S.Ok) (hon : S.on = true) (hlb : S.left <= 9223372036854775807) (hwb : S.writes < 1000000000000) (hdb : S.dirty.length < 1000000000000) :
  Calls Tryz.prog 140 #[.pointer (some ⟨g, 0, none⟩), .agg #[.int .i64 at_, .string data]] w fun e w' => e = .returned (.int .i64 (S.err1 at_ data)) /\ dC O g (S.write1 at_ data) w w' := by
 by_cases hr : 0 <= at_ /\ at_ < (S.now.length : Int)
 ·by_cases hd : data.size = 256
  ·obtain ⟨i, rfl⟩ : ∃ i : Nat, at_ = (i : Int) := ⟨at_.toNat, by omega⟩
   have R1 : S.err1 i data = if (S.put i data).fails then 14 else 0 := by unfold DS.err1; rw [if_pos hr, if_pos hd, Int.toNat_natCast]
   have R2 : S.write1 i data = (S.put i data).failed := by unfold DS.write1; rw [if_pos ⟨hr.1, hr.2, hd⟩, Int.toNat_natCast]
   rw [R1, R2]
   obtain ⟨gn, gs, cn, cs, vd, vk, rfl, h⟩ := h
   exact Th i data h hok hon (by omega) hd hlb hwb hdb
  ·have R1 : S.err1 at_ data = 1 := by unfold DS.err1; rw [if_pos hr, if_neg hd]
   have R2 : S.write1 at_ data = S := by unfold DS.write1; rw [if_neg (fun h => hd h.2.2)]
   rw [R1, R2]
   have hA : ∀ o : Obj, bE (w.alloc o) O g S := fun o => h.kept (fun b hb => Below.heap_alloc _ _ _ (h.lt hb))
   have HH : Hid (∀ o : Obj, Calls Tryz.prog 174 #[.pointer (some ⟨g, 0, none⟩), .int .i64 at_] (w.alloc o) fun e w' => e = .returned (.bool true) /\ w.alloc o = w') := Lib.hid (fun o => by
    have := oR at_ (hA o)
    rwa [show decide (0 <= at_ /\ at_ < (S.now.length : Int)) = true by simpa using hr] at this)
   have H := Lib.hid h
   have hdn : ((data.size : Int) == 256) = false := beq_eq_false_iff_ne.2 (by omega)
   have hdm : ((data.size : Int) != 256) = true := bne_iff_ne.2 (by omega)
   clear R1 R2 hr hd h hA hok hon hlb hwb hdb
   go_enter Tryz.func140, Tryz.ntmps140
   go_wp2_with fail
   refine (HH.out _).mono ?_
   rintro e w1 ⟨rfl, rfl⟩
   go_wp2_with fail
   go_ret
   exact ⟨rfl, dC.of_below H.out ((Below.refl _ _).alloc (Nat.le_refl _) _)⟩
 ·have R1 : S.err1 at_ data = 15 := by unfold DS.err1; rw [if_neg hr]
  have R2 : S.write1 at_ data = S := by unfold DS.write1; rw [if_neg (fun h => hr ⟨h.1, h.2.1⟩)]
  rw [R1, R2]
  have hA : ∀ o : Obj, bE (w.alloc o) O g S := fun o => h.kept (fun b hb => Below.heap_alloc _ _ _ (h.lt hb))
  have HH : Hid (∀ o : Obj, Calls Tryz.prog 174 #[.pointer (some ⟨g, 0, none⟩), .int .i64 at_] (w.alloc o) fun e w' => e = .returned (.bool false) /\ w.alloc o = w') := Lib.hid (fun o => by
   have := oR at_ (hA o)
   rwa [show decide (0 <= at_ /\ at_ < (S.now.length : Int)) = false by simpa using hr] at this)
  have H := Lib.hid h
  clear R1 R2 hr h hA hok hon hlb hwb hdb
  go_enter Tryz.func140, Tryz.ntmps140
  go_wp2_with fail
  refine (HH.out _).mono ?_
  rintro e w1 ⟨rfl, rfl⟩
  go_wp2_with fail
  go_ret
  exact ⟨rfl, dC.of_below H.out ((Below.refl _ _).alloc (Nat.le_refl _) _)⟩
theorem Tg {w : World} {base base' : Nat} {e : TypeId} {size : Nat} {v : Value} {n : Nat} {xs : List Value} (h : w.ownsRow base e size v n xs) (hb : base' <= base) : w.ownsRow base' e size v n xs := by
 refine ⟨h.1, ?_⟩
 rcases h.2 with hn | ⟨g, cap, cur, e, hb1, rest⟩
 ·exact .inl hn
 ·exact .inr ⟨g, cap, cur, e, Nat.le_trans hb hb1, rest⟩
theorem nL {w w1 w2 : World} {O O' : List Nat} {g : Nat} {S : DS} (hO : ∀ b ∈ O', b ∈ O \/ w.heap.size <= b) (hk : aR O w w1) (h : dC O' g S w1 w2) : dC O g S w w2 := by
 obtain ⟨O3, t1, t2, t3⟩ := h
 refine ⟨O3, t1, fun b hb => ?_, hk.trans t3 hO⟩
 rcases t2 b hb with h | h
 ·exact hO b h
 ·exact .inr (Nat.le_trans hk.size h)
theorem Fs {w w2 : World} {O : List Nat} {g : Nat} {S : DS} {o : Obj} (h : dC O g S (w.alloc o) w2) : dC O g S w w2 :=
 dC.after ((Below.refl _ _).alloc (Nat.le_refl _) _) h
def tM (w : World) (O : List Nat) (A : Option Addr) (l : List (Int × ByteArray)) : Prop :=
 0 < l.length -> ∃ b off, A = some ⟨b, off, none⟩ /\ b < w.heap.size /\ b ∉ O /\ ∀ (j : Nat) (x : Int × ByteArray), l[j]? = some x -> w.cell? ⟨b, off + j * 2, none⟩ = some (.int .i64 x.1) /\ w.cell? ⟨b, off + j * 2 + 1, none⟩ = some (.string x.2)
theorem DS.failed_left (S : DS) : S.failed.left <= S.left := by
 unfold DS.failed DS.crash
 split <;> (try split) <;> (try split) <;> simp
theorem DS.write1_left (S : DS) (at_ : Int) (data : ByteArray) : (S.write1 at_ data).left <= S.left := by
 unfold DS.write1
 split
 ·exact DS.failed_left _
 ·exact Nat.le_refl _
theorem Ix {w : World} {O : List Nat} {g : Nat} {S : DS} (A : Option Addr) (m c : Nat) (l : List (Int × ByteArray)) (h : bE w O g S) (hok : S.Ok) (hl : l.length = m) (hA : tM w O A l) (hlb : S.left <= 9223372036854775807) (hwb : S.writes + m < 1000000000000) (hdb : S.dirty.length + m < 1000000000000) :
  Calls Tryz.prog 92 #[.pointer (some ⟨g, 0, none⟩), .slice A m c] w fun e w' => e = .returned (.int .i64 (S.errW l)) /\ dC O g (S.write l) w w' := by
 have HO := Lib.hid (pR h)
 have H := Lib.hid h
 by_cases hon : S.on = true
 ·have R1 : S.errW l = S.errL l := by unfold DS.errW; rw [if_pos hon]
  have R2 : S.write l = S.writeL l := by unfold DS.write; rw [if_pos hon]
  rw [R1, R2]
  rw [hon] at HO
  obtain ⟨ee, hee⟩ : ∃ ee, ee = S.errL l := ⟨_, rfl⟩
  rw [<- hee]
  have HEE := Lib.hid hee
  have HOK := Lib.hid hok
  have HON := Lib.hid hon
  have HL := Lib.hid hl
  have HA := Lib.hid hA
  have HLB := Lib.hid hlb
  have HWB := Lib.hid hwb
  have HDB := Lib.hid hdb
  have hm : (m : Int) <= 9223372036854775807 := by omega
  clear R1 R2 h hok hon hl hA hee hlb hwb hdb
  go_enter Tryz.func92, Tryz.ntmps92
  go_wp2_with (go_at_call 139; refine HO.out.mono ?_; rintro e w1 ⟨rfl, rfl⟩)
  go_loopw [13] (fun i wr => ∃ (j : Nat) (T : DS), j <= m /\ i = .int .i64 j /\ dC O g T w wr /\ T.Ok /\ T.on = true /\ T.writes <= S.writes + j /\ T.dirty.length <= S.dirty.length + j /\ T.left <= S.left /\ S.errL l = T.errL (l.drop j) /\ S.writeL l = T.writeL (l.drop j)) (fun i _ => m - (intOf i).toNat)
  case atStart => exact ⟨0, S, Nat.zero_le _, rfl, dC.refl H.out, HOK.out, HON.out, by omega, by omega, Nat.le_refl _, rfl, rfl⟩
  case round =>
   obtain ⟨j, T, hj, rfl, hT, hTok, hTon, hTw, hTd, hTl, he1, he2⟩ := hrel
   have HT := Lib.hid hT
   have HE1 := Lib.hid he1
   have HE2 := Lib.hid he2
   have HTO := Lib.hid hTok
   clear hT he1 he2 hTok
   by_cases hlt : j < m
   ·have hjl : j < l.length := by rw [HL.out]; exact hlt
    obtain ⟨b, off, rfl, hbw, hbO, hc⟩ := HA.out (by omega)
    obtain ⟨x, hx⟩ : ∃ x, x = l[j] := ⟨_, rfl⟩
    have hxj : l[j]? = some x := by rw [hx]; exact List.getElem?_eq_getElem hjl
    have hdrop : l.drop j = x :: l.drop (j + 1) := by rw [List.drop_eq_getElem_cons hjl, hx]
    obtain ⟨d0, d1⟩ := hc j x hxj
    obtain ⟨O', hD, hO', hK⟩ := HT.out
    have hbb : wr.heap[b]? = w.heap[b]? := hK.block b hbw hbO
    have hbr : b < wr.heap.size := Nat.lt_of_lt_of_le hbw hK.size
    have d0' : wr.cell? ⟨b, off + j * 2, none⟩ = some (.int .i64 x.1) := (World.cell?_of_block (a := ⟨b, off + j * 2, none⟩) hbb).trans d0
    have d1' : wr.cell? ⟨b, off + j * 2 + 1, none⟩ = some (.string x.2) := (World.cell?_of_block (a := ⟨b, off + j * 2 + 1, none⟩) hbb).trans d1
    obtain ⟨xa, xs⟩ := x
    simp only at d0' d1'
    have HW1 : Hid (Calls Tryz.prog 140 #[.pointer (some ⟨g, 0, none⟩), .agg #[.int .i64 xa, .string xs]] (wr.alloc (.cells #[.int .i64 xa, .string xs] 74)) fun e w' => e = .returned (.int .i64 (T.err1 xa xs)) /\ dC O g (T.write1 xa xs) w w') := Lib.hid (by
     refine (Fr xa xs (hD.kept (fun b hb => Below.heap_alloc _ _ _ (hD.lt hb))) HTO.out hTon (by have := HLB.out; omega) (by have := HWB.out; omega) (by have := HDB.out; omega)).mono ?_
     rintro e w3 ⟨rfl, hT3⟩
     exact ⟨rfl, nL hO' hK (Fs hT3)⟩)
    have hlen : j + 1 <= m := hlt
    clear hx hxj hc d0 d1 hD hO' hK hbb hbw hbO hjl
    by_cases he : T.err1 xa xs = 0
    ·have q1 : T.errL ((xa, xs) :: l.drop (j + 1)) = (T.write1 xa xs).errL (l.drop (j + 1)) := by rw [DS.errL, if_pos he]
     have q2 : T.writeL ((xa, xs) :: l.drop (j + 1)) = (T.write1 xa xs).writeL (l.drop (j + 1)) := by rw [DS.writeL, if_pos he]
     have HN := Lib.hid (And.intro (HTO.out.write1 xa xs) (And.intro (DS.write1_on he hTon) (And.intro (Nat.le_trans (DS.write1_writes T xa xs) (show T.writes + 1 <= S.writes + (j + 1) by omega)) (And.intro (Nat.le_trans (DS.write1_dirty T xa xs) (show T.dirty.length + 1 <= S.dirty.length + (j + 1) by omega)) (Nat.le_trans (DS.write1_left T xa xs) hTl)))))
     have HQ := Lib.hid (And.intro (HE1.out.trans (by rw [hdrop, q1])) (HE2.out.trans (by rw [hdrop, q2])))
     rw [he] at HW1
     clear q1 q2 he hdrop hTon hTw hTd hTl
     go_wp2_with fail
     refine HW1.out.mono ?_
     rintro e w3 ⟨rfl, hT3⟩
     go_wp2_with fail
     go_roundw
     case rel => exact ⟨j + 1, T.write1 xa xs, hlen, by go_num, hT3, HN.out.1, HN.out.2.1, HN.out.2.2.1, HN.out.2.2.2.1, HN.out.2.2.2.2, HQ.out.1, HQ.out.2⟩
     case measure => simp [intOf]; omega
    ·have q1 : T.errL ((xa, xs) :: l.drop (j + 1)) = T.err1 xa xs := by rw [DS.errL, if_neg he]
     have q2 : T.writeL ((xa, xs) :: l.drop (j + 1)) = T.write1 xa xs := by rw [DS.writeL, if_neg he]
     have HQ := Lib.hid (And.intro (HE1.out.trans (by rw [hdrop, q1])) (HE2.out.trans (by rw [hdrop, q2])))
     obtain ⟨v, hv⟩ : ∃ v, v = T.err1 xa xs := ⟨_, rfl⟩
     rw [<- hv] at HW1 HQ he
     have hb : (v != 0) = true := bne_iff_ne.2 he
     clear q1 q2 he hdrop hTon hTw hTd hTl hv
     go_wp2_with fail
     refine HW1.out.mono ?_
     rintro e w3 ⟨rfl, hT3⟩
     go_wp2_with fail
     go_ret
     rw [HQ.out.2, HEE.out, HQ.out.1]
     exact ⟨rfl, hT3⟩
   ·obtain rfl : j = m := by omega
    have hd : l.drop j = [] := List.drop_of_length_le (by rw [HL.out]; exact Nat.le_refl _)
    have q1 : ee = 0 := by rw [HEE.out, HE1.out, hd]; rfl
    have HQ : Hid (S.writeL l = T) := Lib.hid (by rw [HE2.out, hd]; rfl)
    clear hd
    go_wp2_with fail
    go_ret
    rw [HQ.out]
    exact ⟨by rw [q1]; rfl, HT.out⟩
 ·have R1 : S.errW l = 14 := by unfold DS.errW; rw [if_neg hon]
  have R2 : S.write l = S := by unfold DS.write; rw [if_neg hon]
  rw [R1, R2]
  rw [show S.on = false by simpa using hon] at HO
  clear R1 R2 h hok hon hl hA hlb hwb hdb
  go_enter Tryz.func92, Tryz.ntmps92
  go_wp2_with (go_at_call 139; refine HO.out.mono ?_; rintro e w1 ⟨rfl, rfl⟩)
  go_ret
  exact ⟨rfl, dC.refl H.out⟩
end Go.Proofs.YtingkbeifohihaaGreatDoor
