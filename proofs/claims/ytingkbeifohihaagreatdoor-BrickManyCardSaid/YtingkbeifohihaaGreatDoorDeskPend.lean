/-
  Package desk: what a Sync would write, rising. No statement is proved here.
-/
import Derived.Test.YtingkbeifohihaaGreatDoorDeskIter
import Derived.Test.YtingkbeifohihaaGreatDoorDeskUse
import Derived.Test.YtingkbeifohihaaGreatDoorRoomRead
import Derived.Deep.AppendLies
namespace Go.Proofs.YtingkbeifohihaaGreatDoor
open Go.RowKit Go.Sort Go.Shelf Go.Lib
set_option maxRecDepth 100000
set_option maxHeartbeats 2000000
def Ko (F : Int -> ByteArray) (t : Int) : List Value := [.int .i64 t, .string (F t)]
theorem Py (F : Int -> ByteArray) {ss : List Int} {j : Nat} {t : Int} (h : ss[j]? = some t) : (dD F ss)[2 * j]? = some (.int .i64 t) /\ (dD F ss)[2 * j + 1]? = some (.string (F t)) := by
 unfold dD
 exact tU (x := (t, F t)) (by rw [List.getElem?_map, h]; rfl)
theorem vJ (F : Int -> ByteArray) (ss : List Int) : flatK (Ko F) 2 ss.toArray = (dD F ss).toArray := by
 apply Array.ext
 ·rw [size_flatK, List.size_toArray, List.size_toArray, tV]
 ·intro i h1 h2
  rw [size_flatK, List.size_toArray] at h1
  have e := get_flatK (Ko F) 2 ss.toArray i (by rw [List.size_toArray]; exact h1)
  rw [getElem!_pos _ i (by rw [size_flatK, List.size_toArray]; exact h1)] at e
  have hj : i / 2 < ss.length := by omega
  rw [e, getElem!_pos _ (i / 2) (by rw [List.size_toArray]; exact hj), List.getElem_toArray, List.getElem_toArray]
  obtain ⟨t, ht⟩ : ∃ t, t = ss[i / 2] := ⟨_, rfl⟩
  have hg := Py F (ss := ss) (j := i / 2) (t := t) (by rw [ht]; exact List.getElem?_eq_getElem hj)
  rw [<- ht]
  have hlen : i < (dD F ss).length := by rw [tV]; exact h1
  rcases Nat.mod_two_eq_zero_or_one i with hm | hm
  ·have : i = 2 * (i / 2) := by omega
   rw [hm]
   have e2 := hg.1
   rw [<- this, List.getElem?_eq_getElem hlen] at e2
   exact (Option.some.inj e2).symm
  ·have : i = 2 * (i / 2) + 1 := by omega
   rw [hm]
   have e2 := hg.2
   rw [<- this, List.getElem?_eq_getElem hlen] at e2
   exact (Option.some.inj e2).symm
theorem Dn {w : World} {g n : Nat} {os : Array Obj} {cur : Array Value} {e : TypeId} {fr : Nat × Nat} (d : Array Value) (hb : w.heap[g]? = some (.cells cur e fr)) :
  (grow (putRow id (Sort.ahead w n) g 0 d) os).heap[g]? = some (.cells (putCells id 0 d cur) e fr) := by
 have hg : g < w.heap.size := (Array.getElem?_eq_some_iff.1 hb).1
 rw [heap_grow_old _ _ (by simpa using hg)]
 simp [putRow, mapBlock, Sort.ahead, Array.getElem?_modify, hb, onCells]
theorem vU {w : World} {g n : Nat} {os : Array Obj} (d : Array Value) : w.grownBy (grow (putRow id (Sort.ahead w n) g 0 d) os) (some g) := by
 refine ⟨rfl, rfl, rfl, by simp, fun k hk hne => ?_⟩
 rw [heap_grow_old _ _ (by simpa using hk)]
 have : g ≠ k := fun e => hne (by rw [e])
 simp [putRow, mapBlock, Sort.ahead, Array.getElem?_modify, this]
theorem yY (cur : Array Value) (ts : List Value) (h : ts.length <= cur.size) : (putCells id 0 ts.toArray cur).toList.take ts.length = ts := by
 apply List.ext_getElem?
 intro j
 by_cases hj : j < ts.length
 ·rw [List.getElem?_take_of_lt hj, Array.getElem?_toList]
  simp [putCells, hj, show j < cur.size by omega]
 ·rw [List.getElem?_take_eq_none (by omega), List.getElem?_eq_none (by omega)]
theorem vV {w : World} {base g cap n k m : Nat} {e : TypeId} {os : Array Obj} {xs ts : List Value} (hrow : w.ownsRow base e k (.slice (some ⟨g, 0, none⟩) m cap) m xs) (hl : ts.length = m * k) :
  (grow (putRow id (Sort.ahead w n) g 0 ts.toArray) os).ownsRow base e k (.slice (some ⟨g, 0, none⟩) m cap) m ts := by
 rcases hrow.2 with ⟨h0, _⟩ | ⟨g', cap', cur, hv, hg, hb, h1, h2, h3, h4⟩
 ·cases h0
 ·cases hv
  have hle : m * k <= cur.size := by rw [h3]; exact Nat.mul_le_mul_right k h1
  exact ⟨hl, .inr ⟨g, cap, _, rfl, hg, Dn _ hb, h1, h2, by simp [putCells, h3], by rw [<- hl]; exact yY cur ts (by omega)⟩⟩
theorem Yt (x y : Int) : ltOf (fun x y : Int => compareInt x y) x y = decide (x < y) := by
 unfold ltOf compareInt
 by_cases h1 : x < y
 ·simp [h1]
 ·by_cases h2 : y < x <;> simp [h1, h2]
theorem BA : SWO (ltOf fun x y : Int => compareInt x y) where
 irrefl x := by rw [Yt]; simp
 trans x y z h1 h2 := by rw [Yt] at *; simp at *; omega
 ntrans x y z h1 h2 := by rw [Yt] at *; simp at *; omega
theorem BB (x y : Int) (h1 : ltOf (fun x y : Int => compareInt x y) x y = false) (h2 : ltOf (fun x y : Int => compareInt x y) y x = false) : x = y := by
 rw [Yt] at h1 h2
 simp at h1 h2
 omega
theorem Pz (x : Int) (w : World) : Calls Tryz.prog 111 #[.int .i64 x] w fun e w' => e = .returned (.bool false) /\ w' = w := by
 go_enter Tryz.func111, Tryz.ntmps111
 go_wp2_with fail
 go_ret
 exact ⟨rfl, rfl⟩
theorem Kp (x y : Int) (w : World) : Calls Tryz.prog 66 #[.int .i64 x, .int .i64 y] w fun e w' => e = .returned (.int .i64 (compareInt x y)) /\ w' = w := by
 have HN : Hid (∀ z w', Calls Tryz.prog 111 #[.int .i64 z] w' fun e w'' => e = .returned (.bool false) /\ w'' = w') := Lib.hid Pz
 unfold compareInt
 by_cases h1 : x < y
 ·rw [if_pos h1]
  go_enter Tryz.func66, Tryz.ntmps66
  go_wp2_with (go_at_call 111; refine (HN.out _ _).mono ?_; rintro e w1 ⟨rfl, rfl⟩)
  go_ret
  exact ⟨rfl, rfl⟩
 ·rw [if_neg h1]
  by_cases h2 : y < x
  ·rw [if_pos h2]
   go_enter Tryz.func66, Tryz.ntmps66
   go_wp2_with (go_at_call 111; refine (HN.out _ _).mono ?_; rintro e w1 ⟨rfl, rfl⟩)
   go_ret
   exact ⟨rfl, rfl⟩
  ·rw [if_neg h2]
   go_enter Tryz.func66, Tryz.ntmps66
   go_wp2_with (go_at_call 111; refine (HN.out _ _).mono ?_; rintro e w1 ⟨rfl, rfl⟩)
   go_ret
   exact ⟨rfl, rfl⟩
theorem Gu (F : Int -> ByteArray) (x y : Int) (w : World) : Calls Tryz.prog 65 #[.agg #[.int .i64 x, .string (F x)], .agg #[.int .i64 y, .string (F y)]] w fun e w' => e = .returned (.int .i64 (compareInt x y)) /\ ∃ q os', w' = grow (w.drewN q) os' := by
 have hcon := fun W' => Kp x y W'
 generalize compareInt x y = r at hcon ⊢
 generalize F x = X
 generalize F y = Y
 go_enter Tryz.func65, Tryz.ntmps65
 go_wp2_with (go_at_call 66; refine (hcon _).mono ?_; rintro e w' ⟨rfl, rfl⟩)
 go_ret
 exact ⟨rfl, 0, _, by rw [alloc_eq_grow, alloc_eq_grow, grow_grow]; rfl⟩
theorem Vb (F : Int -> ByteArray) (blk off size : Nat) (w : World) : CmpLays Tryz.prog 65 #[] (Ko F) 2 (fun x y => compareInt x y) blk off size w :=
 fun _ _ _ _ x y => Gu F x y _
def lX (ss : List Int) : List Int := ss.mergeSort fun x y => !(ltOf (fun x y : Int => compareInt x y)) y x
theorem fK (ss : List Int) : (lX ss).Perm ss := List.mergeSort_perm _ _
theorem rB {ss : List Int} (h : ss.Nodup) : (lX ss).Pairwise (· < ·) := by
 have h1 : (lX ss).Pairwise fun x y => (!(ltOf (fun x y : Int => compareInt x y)) y x) = true := by
  refine List.pairwise_mergeSort (fun a b c h1 h2 => ?_) (fun a b => ?_) ss
  ·rw [Yt] at *
   simp at *
   omega
  ·rw [Yt, Yt]
   simp
   omega
 have h2 : (lX ss).Nodup := (fK ss).nodup_iff.2 h
 refine (h1.and h2).imp fun {a b} ⟨h3, h4⟩ => ?_
 rw [Yt] at h3
 simp at h3
 omega
theorem Qa (F : Int -> ByteArray) (base g cap m : Nat) (ss : List Int) (w : World) (hm : ss.length = m) (hrow : w.ownsRow base 74 2 (.slice (some ⟨g, 0, none⟩) m cap) m (dD F ss)) (hs : m < 1000000) :
  Calls Tryz.prog 64 #[.slice (some ⟨g, 0, none⟩) m cap, .func (.func 65) #[] #[]] w fun e w' => e = .returned (.tuple #[]) /\ w'.ownsRow base 74 2 (.slice (some ⟨g, 0, none⟩) m cap) m (dD F (lX ss)) /\ w.grownBy w' (some g) := by
 subst hm
 have eg : ∀ args w, (callFunc 65 args).run Tryz.prog w = .ok (.enter 65 args) w := enters_of Tryz.func65 (by kernel_rfl) rfl
 have hlt : g < w.heap.size := (hrow.lt g rfl).2
 have hH : HoldsK (Ko F) 2 w g 0 ss.toArray := by
  intro j hj
  rw [vJ] at hj ⊢
  rw [List.size_toArray] at hj
  have e : (dD F ss)[j]? = some ((dD F ss).toArray[j]!) := by
   rw [getElem!_pos _ j (by rw [List.size_toArray]; exact hj), List.getElem_toArray]
   exact List.getElem?_eq_getElem hj
  exact ⟨by rw [Nat.zero_add]; exact dY hrow e, by rw [Nat.zero_add]; exact kR hrow j⟩
 have hcon := AnyQ.slices_SortFunc_total Mb 2 Tryz.isAgg74 Tryz.sizeOf74 (Ko F) (fun _ => rfl) (fun x v hv => by simp [Ko] at hv; rcases hv with rfl | rfl <;> rfl) (fun x y => compareInt x y) BA 65 #[] g 0 cap ss.toArray w eg (Vb F g 0 _ w) hH hlt (by rw [List.size_toArray]; omega) BB
 change Calls Tryz.prog 64 _ _ _ at hcon
 rw [List.size_toArray] at hcon
 refine hcon.mono ?_
 rintro e w' ⟨rfl, n, os, rfl⟩
 refine ⟨rfl, ?_, ?_⟩
 ·show (sortWorldK (Ko F) 2 w g 0 n (lX ss).toArray os).ownsRow _ _ _ _ _ _
  unfold sortWorldK putRowK
  rw [vJ]
  exact vV hrow (by rw [tV, (fK ss).length_eq])
 ·unfold sortWorldK putRowK
  exact vU _
theorem Vc (F : Int -> ByteArray) (base cap m : Nat) (p : Option Addr) (ss : List Int) (w : World) (hm : ss.length = m) (hrow : w.ownsRow base 74 2 (.slice p m cap) m (dD F ss)) (hs : m < 1000000) (hB : base <= w.heap.size) :
  Calls Tryz.prog 64 #[.slice p m cap, .func (.func 65) #[] #[]] w fun e w' => e = .returned (.tuple #[]) /\ w'.ownsRow base 74 2 (.slice p m cap) m (dD F (lX ss)) /\ RowKit.Below base w w' := by
 rcases hrow.2 with ⟨h0, hm0⟩ | ⟨g, cap', cur, hv, hg, hb, h1, h2, h3, h4⟩
 ·injection h0 with e1 e2 e3
  subst e1 e3
  subst e2
  have hnil : ss = [] := List.eq_nil_of_length_eq_zero hm
  subst hnil
  refine (AnyF.slices_SortFunc_none Mb none 0 _ w).mono ?_
  rintro e w' ⟨rfl, rfl⟩
  refine ⟨rfl, ?_, RowKit.Below.refl _ _⟩
  rw [show lX [] = [] by simp [lX]]
  exact hrow
 ·injection hv with e1 e2 e3
  subst e1
  refine (Qa F base g cap m ss w hm hrow hs).mono ?_
  rintro e w' ⟨rfl, hr, hgw⟩
  exact ⟨rfl, hr, (RowKit.Below.refl base w).grown hgw hB (fun k e => by cases e; exact hg)⟩
def eZ (K : KD) : ByteArray := bs (mW (K.S.now.length - 111) K.H)
def gF (K : KD) (t : Int) : ByteArray := if t = 1 then eZ K else K.F t
def iV (K : KD) (t : Int) : Bool := if t = 1 then decide (eZ K ≠ K.kept) else decide (K.F t ≠ .empty)
def cH (K : KD) : List Int := (pD (K.S.now.length - 111)).filter (iV K)
def cA (K : KD) : List (Int × ByteArray) := (cH K).map fun t => (t, gF K t)
theorem eV (K : KD) : (cA K).length = (cH K).length := by simp [cA]
theorem yZ (K : KD) : (eZ K).size = 256 := by unfold eZ; rw [dO, Dp]
structure Xy (N : Nat) (K : KD) : Prop where
 len : K.S.now.length = N
 dim : 140 <= N /\ N <= 400
 zero : (0 : Int) ∈ K.H
 one : (1 : Int) ∈ K.H
 used : ∀ t, K.F t ≠ .empty -> t ∈ K.H /\ t ≠ 1 /\ (K.F t).size = 256
theorem kF {K : KD} {t : Int} : t ∈ cH K ↔ (0 <= t /\ t < ((K.S.now.length - 111 : Nat) : Int)) /\ iV K t = true := by
 unfold cH
 rw [List.mem_filter, Kc]
theorem nS (K : KD) : (cH K).Pairwise (· < ·) := (Aa _).filter _
theorem Gv (K : KD) : (cH K).length <= K.S.now.length - 111 := by
 have := List.length_filter_le (iV K) (pD (K.S.now.length - 111))
 rwa [Ka] at this
theorem Qb {N : Nat} {K : KD} {n : Nat} (ho : oZ n K.H) (hn : n = K.S.now.length - 111) (hk : Xy N K) {ss : List Int} (hnd : ss.Nodup) (hss : ∀ x, x ∈ ss ↔ K.F x ≠ .empty) :
  (eZ K = K.kept -> lX ss = cH K /\ dD K.F ss = dD (gF K) ss) /\ (eZ K ≠ K.kept -> lX (ss ++ [1]) = cH K /\ dD K.F ss ++ [.int .i64 1, .string (eZ K)] = dD (gF K) (ss ++ [1])) := by
 subst hn
 have h1 : (1 : Int) ∉ ss := fun h => (hk.used 1 ((hss 1).1 h)).2.1 rfl
 have hfl : dD K.F ss = dD (gF K) ss := by
  unfold dD
  congr 1
  refine List.map_congr_left fun t ht => ?_
  unfold gF
  rw [if_neg (fun (e : t = 1) => h1 (e ▸ ht))]
 have hr : ∀ t ∈ ss, 0 <= t /\ t < ((K.S.now.length - 111 : Nat) : Int) := fun t ht => ho.range t (hk.used t ((hss t).1 ht)).1
 refine ⟨fun he => ⟨?_, hfl⟩, fun he => ⟨?_, by rw [zB, hfl]; unfold gF; rw [if_pos rfl]⟩⟩
 ·refine iS _ _ (rB hnd) (nS K) fun t => ?_
  rw [(fK ss).mem_iff, kF]
  constructor
  ·intro ht
   refine ⟨hr t ht, ?_⟩
   unfold iV
   rw [if_neg (fun (e : t = 1) => h1 (e ▸ ht))]
   exact decide_eq_true ((hss t).1 ht)
  ·rintro ⟨_, hd⟩
   unfold iV at hd
   split at hd
   ·exact absurd he (of_decide_eq_true hd)
   ·exact (hss t).2 (of_decide_eq_true hd)
 ·have hnd2 : (ss ++ [1]).Nodup := List.nodup_append.2 ⟨hnd, by simp, fun a ha b hb => by simp at hb; subst hb; exact fun e => h1 (e ▸ ha)⟩
  refine iS _ _ (rB hnd2) (nS K) fun t => ?_
  rw [(fK _).mem_iff, kF, List.mem_append, List.mem_singleton]
  constructor
  ·rintro (ht | rfl)
   ·refine ⟨hr t ht, ?_⟩
    unfold iV
    rw [if_neg (fun (e : t = 1) => h1 (e ▸ ht))]
    exact decide_eq_true ((hss t).1 ht)
   ·refine ⟨?_, by unfold iV; rw [if_pos rfl]; exact decide_eq_true he⟩
    exact ho.range _ hk.one
  ·rintro ⟨_, hd⟩
   unfold iV at hd
   split at hd
   ·rename_i e; exact .inr e
   ·exact .inl ((hss t).2 (of_decide_eq_true hd))
section
variable {w w' : World} {P : List Nat} {g gw gm gr gd m : Nat} {O : List Nat} {K : KD}
theorem Cb {N : Nat} (h : bL w P g gd m K) (hk : Xy N K) (hm : m < 1000000) :
  Calls Tryz.prog 32 #[.pointer (some ⟨g, 0, none⟩)] w fun e w' => ∃ A c, e = .returned (.slice A (cA K).length c) /\ w'.ownsRow w.heap.size 74 2 (.slice A (cA K).length c) (cA K).length (eQ (cA K)) /\ Below w.heap.size w w' := by
 obtain ⟨gw, gm, gr, O, rfl, h⟩ := h
 have c1 := h.blk.cell 1
 have c2 := h.blk.cell 2
 have c3 := h.blk.cell 3
 simp [cU] at c1 c2 c3
 have hglt := h.blk.lt
 obtain ⟨D, hown, hD⟩ := h.map
 have hval : zA D K.F := fun t ht hh zd => by
  by_cases he : K.F t = .empty
  ·rw [(hD t ht).2 he] at hh; cases hh
  ·exact ((hD t ht).1 he).2 zd
 have HSZ := Lib.hid (Nat.lt_of_le_of_lt hown.size_le hm)
 have HCOL : Hid (∀ w1, w1 = w.alloc (.cells #[.map (some gm)] 64) -> Calls Tryz.prog 61 #[.func (.func 107) #[] #[.pointer (some ⟨w.heap.size, 0, none⟩)]] w1 fun e w' => ∃ (v : Value) (ss : List Int), e = .returned v /\ lY D ss /\
   w'.ownsRow w1.heap.size 74 2 v ss.length (dD K.F ss) /\ Below w1.heap.size w1 w') := Lib.hid (by
  rintro w1 rfl
  refine Kr gm m D K.F hval _ w.heap.size (by simp) (Boxed.new w 64 (.map (some gm))).cell ?_ (by have := HSZ.out; omega)
  obtain ⟨es, clock, hb, Ft, hs, hDD⟩ := hown
  exact ⟨es, clock, (Below.heap_alloc _ _ gm (Array.getElem?_eq_some_iff.1 hb).1).trans hb, Ft, hs, hDD⟩)
 have HKEY : Hid (∀ ss, lY D ss -> ss.Nodup /\ ∀ x, x ∈ ss ↔ K.F x ≠ .empty) := Lib.hid (by
  intro ss hss
  refine ⟨hss.1, fun x => ⟨fun hx he => ?_, fun he => (hss.2.1 x).2 (((hD x (Fm h.room (hk.used x he).1).1).1 he).1)⟩⟩
  have h1 := (hss.2.1 x).1 hx
  rw [(hD x (hss.2.2 x hx)).2 he] at h1
  cases h1)
 have HLEN : Hid (∀ ss, lY D ss -> ss.length <= 400) := Lib.hid (fun ss hss => by
  have h1 := HKEY.out ss hss
  have h2 : (lX ss).length <= K.S.now.length - 111 := oZ.few ⟨rB h1.1, fun x hx => by
   rw [(fK ss).mem_iff, h1.2 x] at hx
   exact h.room.ok.range x (hk.used x hx).1⟩
  rw [(fK ss).length_eq] at h2
  have := hk.dim
  have := hk.len
  omega)
 have HSORT : Hid (∀ ss, lY D ss -> (eZ K = K.kept -> lX ss = cH K /\ dD K.F ss = dD (gF K) ss) /\ (eZ K ≠ K.kept -> lX (ss ++ [1]) = cH K /\ dD K.F ss ++ [.int .i64 1, .string (eZ K)] = dD (gF K) (ss ++ [1]))) := Lib.hid (fun ss hss => Qb h.room.ok rfl hk (HKEY.out ss hss).1 (HKEY.out ss hss).2)
 have HLAY : Hid (∀ w', Below w.heap.size w w' -> Calls Tryz.prog 63 #[.pointer (some ⟨gr, 0, none⟩)] w' fun e w'' => e = .returned (.tuple #[.string (eZ K), .int .i64 0]) /\ Below w'.heap.size w' w'') := Lib.hid (fun w' hb => Cc (n := K.S.now.length - 111) (H := K.H) ⟨h.room.blk.below hb h.room.lt, h.room.ok, h.room.size⟩ (by have := hk.dim; have := hk.len; omega))
 have HPL : Hid ((cA K).length = (cH K).length) := Lib.hid (eV K)
 have HFL : Hid (eQ (cA K) = dD (gF K) (cH K)) := Lib.hid rfl
 obtain ⟨i1, hi1, hy0, hy1, hy2⟩ := info_parts zC
 have HI1 := Lib.hid hi1
 obtain ⟨R0, hR0⟩ : ∃ R0, R0 = eZ K := ⟨_, rfl⟩
 rw [<- hR0] at HSORT HLAY
 obtain ⟨kp, hkp⟩ : ∃ kp, kp = K.kept := ⟨_, rfl⟩
 rw [<- hkp] at HSORT c3
 obtain ⟨PL, hPL⟩ : ∃ PL, PL = cA K := ⟨_, rfl⟩
 obtain ⟨PT, hPT⟩ : ∃ PT, PT = cH K := ⟨_, rfl⟩
 obtain ⟨G, hG⟩ : ∃ G, G = gF K := ⟨_, rfl⟩
 rw [<- hPL, <- hPT] at HPL
 rw [<- hPL, <- hPT, <- hG] at HFL
 rw [<- hPL]
 rw [<- hPT, <- hG] at HSORT
 clear h hk hm hown hD hval HKEY hi1 hR0 hkp hPL hPT hG HSZ
 go_enter Tryz.func32, Tryz.ntmps32
 go_wp2_with fail
 refine (Gw _ _).mono ?_
 rintro e w1 ⟨rfl, hw1⟩
 have HB1 : Hid (Below w.heap.size w w1) := Lib.hid (by rw [hw1]; exact (Below.refl _ _).alloc (Nat.le_refl _) _)
 have HC1 := Lib.hid (HCOL.out w1 hw1)
 have HSW : Hid (w.heap.size <= w1.heap.size) := Lib.hid HB1.out.size
 clear hw1 HCOL
 go_wp2_with fail
 refine HC1.out.mono ?_
 rintro e w2 ⟨v, ss, rfl, hss, hrow, hb2⟩
 have HB2 : Hid (Below w.heap.size w w2) := Lib.hid (HB1.out.trans (hb2.mono HSW.out))
 have HROW : Hid (w2.ownsRow w.heap.size 74 2 v ss.length (dD K.F ss)) := Lib.hid (eG hrow HSW.out)
 have HSO := Lib.hid (HSORT.out ss hss)
 have HLE := Lib.hid (HLEN.out ss hss)
 obtain ⟨p, cap, rfl, -, -, -, -⟩ := iR hrow
 have c2b : w2.cell? ⟨g, 2, none⟩ = some (.pointer (some ⟨gr, 0, none⟩)) := (HB2.out.cell (p := ⟨g, 2, none⟩) hglt).trans c2
 have HL2 := Lib.hid (HLAY.out w2 HB2.out)
 clear hrow hb2 hss HC1 HSORT HLEN HB1 HSW c1 c2
 go_wp2_with fail
 refine HL2.out.mono ?_
 rintro e w3 ⟨rfl, hb3⟩
 have HB3 : Hid (Below w.heap.size w w3) := Lib.hid (HB2.out.trans (hb3.mono HB2.out.size))
 have HROW3 := Lib.hid (dR HROW.out hb3)
 have c3b : w3.cell? ⟨g, 3, none⟩ = some (.string kp) := (HB3.out.cell (p := ⟨g, 3, none⟩) hglt).trans c3
 clear hb3 HL2 HLAY HB2 HROW c2b c3
 by_cases he : R0 = kp
 ·subst he
  have HS1 := Lib.hid (HSO.out.1 rfl)
  have HSRT := Lib.hid (Vc G w.heap.size cap ss.length p ss w3 rfl (by rw [<- HS1.out.2]; exact HROW3.out) (by have := HLE.out; omega) HB3.out.size)
  clear HSO HROW3
  go_wp2_with (go_at_call 64; refine HSRT.out.mono ?_; rintro e w4 ⟨rfl, hr4, hb4⟩)
  go_ret
  have e1 : ss.length = PL.length := by rw [HPL.out, <- HS1.out.1, (fK ss).length_eq]
  refine ⟨p, cap, by rw [<- e1]; rfl, ?_, HB3.out.trans hb4⟩
  rw [<- e1, HFL.out, <- HS1.out.1]
  exact hr4
 ·have hne : (R0.toList == kp.toList) = false := by
   rw [fC]
   exact decide_eq_false he
  have HS1 := Lib.hid (HSO.out.2 he)
  clear he HSO
  go_wp2_with (at_builtin; refine wpList_append_lies _ rfl (.tmp 28) (.tmp 31) 71 rfl w.heap.size 74 i1 sC 2 24 Tryz.underlying71 HI1.out hy0 hy1 hy2 rfl (by omega) _ ss.length _ rfl (HROW3.out.alloc _) ⟨w3.heap.size, 0, none⟩ 1 1 [.int .i64 1, .string R0] rfl rfl ?c3 ?c4 (by omega) (by have := HLE.out; unfold maxLen; omega) (by have := HLE.out; omega) (by have := HB3.out.size; simp; omega) _ rfl ?_)
  case c3 => exact qI _ _ _ _
  case c4 => simp [Value.oneCell']
  intro g3 cap3 w4 hown4 hg4 _ _
  have HROW4 : Hid (w4.ownsRow w.heap.size 74 2 (.slice (some ⟨g3, 0, none⟩) (ss.length + 1) cap3) (ss.length + 1) (dD G (ss ++ [1]))) := Lib.hid (by rw [<- HS1.out.2]; exact hown4)
  have HB4 : Hid (RowKit.Below w.heap.size w w4) := Lib.hid ((HB3.out.alloc HB3.out.size _).grown hg4 (by simp; have := HB3.out.size; omega) (fun q e => (HROW3.out.lt q e).1))
  have HSRT := Lib.hid (Vc G w.heap.size cap3 (ss.length + 1) (some ⟨g3, 0, none⟩) (ss ++ [1]) w4 (by simp) HROW4.out (by have := HLE.out; omega) HB4.out.size)
  clear hown4 hg4 HROW3 HB3 HROW4
  go_wp2_with (go_at_call 64; refine HSRT.out.mono ?_; rintro e w5 ⟨rfl, hr5, hb5⟩)
  go_ret
  have e1 : ss.length + 1 = PL.length := by rw [HPL.out, <- HS1.out.1, (fK _).length_eq]; simp
  refine ⟨_, cap3, by rw [<- e1]; rfl, ?_, HB4.out.trans hb5⟩
  rw [<- e1, HFL.out, <- HS1.out.1]
  exact hr5
end
end Go.Proofs.YtingkbeifohihaaGreatDoor
