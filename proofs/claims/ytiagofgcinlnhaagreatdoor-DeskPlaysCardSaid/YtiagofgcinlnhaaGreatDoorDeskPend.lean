/-
  Package desk: what a Sync would write, rising. No statement is proved here.
-/
import Derived.Test.YtiagofgcinlnhaaGreatDoorDeskIter
import Derived.Test.YtiagofgcinlnhaaGreatDoorDeskSmall
import Derived.Test.YtiagofgcinlnhaaGreatDoorRoomRead
import Derived.Deep.AppendLies
namespace Go.Proofs.YtiagofgcinlnhaaGreatDoor
open Go.RowKit Go.Sort Go.Shelf Go.Lib
def encF (F : Int → ByteArray) (t : Int) : List Value := [.int .i64 t, .string (F t)]
theorem flatF_get (F : Int → ByteArray) {ss : List Int} {j : Nat} {t : Int} (h : ss[j]? = some t) : (flatF F ss)[2 * j]? = some (.int .i64 t) ∧ (flatF F ss)[2 * j + 1]? = some (.string (F t)) := by
  unfold flatF
  exact flatI_get (x := (t, F t)) (by rw [List.getElem?_map, h]; rfl)
theorem flatK_flatF (F : Int → ByteArray) (ss : List Int) : flatK (encF F) 2 ss.toArray = (flatF F ss).toArray := by
  apply Array.ext
  · rw [size_flatK, List.size_toArray, List.size_toArray, flatF_len]
  · intro i h1 h2
    rw [size_flatK, List.size_toArray] at h1
    have e := get_flatK (encF F) 2 ss.toArray i (by rw [List.size_toArray]; exact h1)
    rw [getElem!_pos _ i (by rw [size_flatK, List.size_toArray]; exact h1)] at e
    have hj : i / 2 < ss.length := by omega
    rw [e, getElem!_pos _ (i / 2) (by rw [List.size_toArray]; exact hj), List.getElem_toArray, List.getElem_toArray]
    obtain ⟨t, ht⟩ : ∃ t, t = ss[i / 2] := ⟨_, rfl⟩
    have hg := flatF_get F (ss := ss) (j := i / 2) (t := t) (by rw [ht]; exact List.getElem?_eq_getElem hj)
    rw [← ht]
    have hlen : i < (flatF F ss).length := by rw [flatF_len]; exact h1
    rcases Nat.mod_two_eq_zero_or_one i with hm | hm
    · have : i = 2 * (i / 2) := by omega
      rw [hm]
      have e2 := hg.1
      rw [← this, List.getElem?_eq_getElem hlen] at e2
      exact (Option.some.inj e2).symm
    · have : i = 2 * (i / 2) + 1 := by omega
      rw [hm]
      have e2 := hg.2
      rw [← this, List.getElem?_eq_getElem hlen] at e2
      exact (Option.some.inj e2).symm
theorem heap_sortedV {w : World} {g n : Nat} {os : Array Obj} {cur : Array Value} {e : TypeId} {fr : Nat × Nat} (d : Array Value) (hb : w.heap[g]? = some (.cells cur e fr)) :
    (grow (putRow id (Sort.ahead w n) g 0 d) os).heap[g]? = some (.cells (putCells id 0 d cur) e fr) := by
  have hg : g < w.heap.size := (Array.getElem?_eq_some_iff.1 hb).1
  rw [heap_grow_old _ _ (by simpa using hg)]
  simp [putRow, mapBlock, Sort.ahead, Array.getElem?_modify, hb, onCells]
theorem grownBy_sortedV {w : World} {g n : Nat} {os : Array Obj} (d : Array Value) : w.grownBy (grow (putRow id (Sort.ahead w n) g 0 d) os) (some g) := by
  refine ⟨rfl, rfl, rfl, by simp, fun k hk hne => ?_⟩
  rw [heap_grow_old _ _ (by simpa using hk)]
  have : g ≠ k := fun e => hne (by rw [e])
  simp [putRow, mapBlock, Sort.ahead, Array.getElem?_modify, this]
theorem take_putCellsV (cur : Array Value) (ts : List Value) (h : ts.length ≤ cur.size) : (putCells id 0 ts.toArray cur).toList.take ts.length = ts := by
  apply List.ext_getElem?
  intro j
  by_cases hj : j < ts.length
  · rw [List.getElem?_take_of_lt hj, Array.getElem?_toList]
    simp [putCells, hj, show j < cur.size by omega]
  · rw [List.getElem?_take_eq_none (by omega), List.getElem?_eq_none (by omega)]
theorem ownsRow_sortedV {w : World} {base g cap n k m : Nat} {e : TypeId} {os : Array Obj} {xs ts : List Value} (hrow : w.ownsRow base e k (.slice (some ⟨g, 0, none⟩) m cap) m xs) (hl : ts.length = m * k) :
    (grow (putRow id (Sort.ahead w n) g 0 ts.toArray) os).ownsRow base e k (.slice (some ⟨g, 0, none⟩) m cap) m ts := by
  rcases hrow.2 with ⟨h0, _⟩ | ⟨g', cap', cur, hv, hg, hb, h1, h2, h3, h4⟩
  · cases h0
  · cases hv
    have hle : m * k ≤ cur.size := by rw [h3]; exact Nat.mul_le_mul_right k h1
    exact ⟨hl, .inr ⟨g, cap, _, rfl, hg, heap_sortedV _ hb, h1, h2, by simp [putCells, h3], by rw [← hl]; exact take_putCellsV cur ts (by omega)⟩⟩
theorem ltZ (x y : Int) : ltOf (fun x y : Int => compareInt x y) x y = decide (x < y) := by
  unfold ltOf compareInt
  by_cases h1 : x < y
  · simp [h1]
  · by_cases h2 : y < x <;> simp [h1, h2]
theorem swoZ : SWO (ltOf fun x y : Int => compareInt x y) where
  irrefl x := by rw [ltZ]; simp
  trans x y z h1 h2 := by rw [ltZ] at *; simp at *; omega
  ntrans x y z h1 h2 := by rw [ltZ] at *; simp at *; omega
theorem totZ (x y : Int) (h1 : ltOf (fun x y : Int => compareInt x y) x y = false) (h2 : ltOf (fun x y : Int => compareInt x y) y x = false) : x = y := by
  rw [ltZ] at h1 h2
  simp at h1 h2
  omega
set_option maxRecDepth 100000 in
set_option maxHeartbeats 1000000 in
theorem isnan_any (x : Int) (w : World) : Calls Tryz.prog 119 #[.int .i64 x] w fun e w' => e = .returned (.bool false) ∧ w' = w := by
  go_enter Tryz.func119, Tryz.ntmps119
  go_wp2_with fail
  go_ret
  exact ⟨rfl, rfl⟩
set_option maxRecDepth 100000 in
set_option maxHeartbeats 1000000 in
theorem cmpint_any (x y : Int) (w : World) : Calls Tryz.prog 89 #[.int .i64 x, .int .i64 y] w fun e w' => e = .returned (.int .i64 (compareInt x y)) ∧ w' = w := by
  have HN : Hid (∀ z w', Calls Tryz.prog 119 #[.int .i64 z] w' fun e w'' => e = .returned (.bool false) ∧ w'' = w') := Lib.hid isnan_any
  unfold compareInt
  by_cases h1 : x < y
  · rw [if_pos h1]
    go_enter Tryz.func89, Tryz.ntmps89
    go_wp2_with (go_at_call 119; refine (HN.out _ _).mono ?_; rintro e w1 ⟨rfl, rfl⟩)
    go_ret
    exact ⟨rfl, rfl⟩
  · rw [if_neg h1]
    by_cases h2 : y < x
    · rw [if_pos h2]
      go_enter Tryz.func89, Tryz.ntmps89
      go_wp2_with (go_at_call 119; refine (HN.out _ _).mono ?_; rintro e w1 ⟨rfl, rfl⟩)
      go_ret
      exact ⟨rfl, rfl⟩
    · rw [if_neg h2]
      go_enter Tryz.func89, Tryz.ntmps89
      go_wp2_with (go_at_call 119; refine (HN.out _ _).mono ?_; rintro e w1 ⟨rfl, rfl⟩)
      go_ret
      exact ⟨rfl, rfl⟩
set_option maxRecDepth 100000 in
set_option maxHeartbeats 1000000 in
theorem closure_any (F : Int → ByteArray) (x y : Int) (w : World) : Calls Tryz.prog 88 #[.agg #[.int .i64 x, .string (F x)], .agg #[.int .i64 y, .string (F y)]] w fun e w' => e = .returned (.int .i64 (compareInt x y)) ∧ ∃ q os', w' = grow (w.drewN q) os' := by
  have hcon := fun W' => cmpint_any x y W'
  generalize compareInt x y = r at hcon ⊢
  generalize F x = X
  generalize F y = Y
  go_enter Tryz.func88, Tryz.ntmps88
  go_wp2_with (go_at_call 89; refine (hcon _).mono ?_; rintro e w' ⟨rfl, rfl⟩)
  go_ret
  exact ⟨rfl, 0, _, by rw [alloc_eq_grow, alloc_eq_grow, grow_grow]; rfl⟩
theorem cmp_lays (F : Int → ByteArray) (blk off size : Nat) (w : World) : CmpLays Tryz.prog 88 #[] (encF F) 2 (fun x y => compareInt x y) blk off size w :=
  fun _ _ _ _ x y => closure_any F x y _
def sortZ (ss : List Int) : List Int := ss.mergeSort fun x y => !(ltOf (fun x y : Int => compareInt x y)) y x
theorem sortZ_perm (ss : List Int) : (sortZ ss).Perm ss := List.mergeSort_perm _ _
theorem sortZ_rise {ss : List Int} (h : ss.Nodup) : (sortZ ss).Pairwise (· < ·) := by
  have h1 : (sortZ ss).Pairwise fun x y => (!(ltOf (fun x y : Int => compareInt x y)) y x) = true := by
    refine List.pairwise_mergeSort (fun a b c h1 h2 => ?_) (fun a b => ?_) ss
    · rw [ltZ] at *
      simp at *
      omega
    · rw [ltZ, ltZ]
      simp
      omega
  have h2 : (sortZ ss).Nodup := (sortZ_perm ss).nodup_iff.2 h
  refine (h1.and h2).imp fun {a b} ⟨h3, h4⟩ => ?_
  rw [ltZ] at h3
  simp at h3
  omega
set_option maxRecDepth 100000 in
set_option maxHeartbeats 1000000 in
theorem ksort_any (F : Int → ByteArray) (base g cap m : Nat) (ss : List Int) (w : World) (hm : ss.length = m) (hrow : w.ownsRow base 90 2 (.slice (some ⟨g, 0, none⟩) m cap) m (flatF F ss)) (hs : m < 1000000) :
    Calls Tryz.prog 87 #[.slice (some ⟨g, 0, none⟩) m cap, .func (.func 88) #[] #[]] w fun e w' => e = .returned (.tuple #[]) ∧ w'.ownsRow base 90 2 (.slice (some ⟨g, 0, none⟩) m cap) m (flatF F (sortZ ss)) ∧ w.grownBy w' (some g) := by
  subst hm
  have eg : ∀ args w, (callFunc 88 args).run Tryz.prog w = .ok (.enter 88 args) w := enters_of Tryz.func88 (by kernel_rfl) rfl
  have hlt : g < w.heap.size := (hrow.lt g rfl).2
  have hH : HoldsK (encF F) 2 w g 0 ss.toArray := by
    intro j hj
    rw [flatK_flatF] at hj ⊢
    rw [List.size_toArray] at hj
    have e : (flatF F ss)[j]? = some ((flatF F ss).toArray[j]!) := by
      rw [getElem!_pos _ j (by rw [List.size_toArray]; exact hj), List.getElem_toArray]
      exact List.getElem?_eq_getElem hj
    exact ⟨by rw [Nat.zero_add]; exact row_cell hrow e, by rw [Nat.zero_add]; exact row_frozen hrow j⟩
  have hcon := AnyQ.slices_SortFunc_total h_sortf 2 Tryz.isAgg90 Tryz.sizeOf90 (encF F) (fun _ => rfl) (fun x v hv => by simp [encF] at hv; rcases hv with rfl | rfl <;> rfl) (fun x y => compareInt x y) swoZ 88 #[] g 0 cap ss.toArray w eg (cmp_lays F g 0 _ w) hH hlt (by rw [List.size_toArray]; omega) totZ
  change Calls Tryz.prog 87 _ _ _ at hcon
  rw [List.size_toArray] at hcon
  refine hcon.mono ?_
  rintro e w' ⟨rfl, n, os, rfl⟩
  refine ⟨rfl, ?_, ?_⟩
  · show (sortWorldK (encF F) 2 w g 0 n (sortZ ss).toArray os).ownsRow _ _ _ _ _ _
    unfold sortWorldK putRowK
    rw [flatK_flatF]
    exact ownsRow_sortedV hrow (by rw [flatF_len, (sortZ_perm ss).length_eq])
  · unfold sortWorldK putRowK
    exact grownBy_sortedV _
set_option maxRecDepth 100000 in
theorem ksort2 (F : Int → ByteArray) (base cap m : Nat) (p : Option Addr) (ss : List Int) (w : World) (hm : ss.length = m) (hrow : w.ownsRow base 90 2 (.slice p m cap) m (flatF F ss)) (hs : m < 1000000) (hB : base ≤ w.heap.size) :
    Calls Tryz.prog 87 #[.slice p m cap, .func (.func 88) #[] #[]] w fun e w' => e = .returned (.tuple #[]) ∧ w'.ownsRow base 90 2 (.slice p m cap) m (flatF F (sortZ ss)) ∧ RowKit.Below base w w' := by
  rcases hrow.2 with ⟨h0, hm0⟩ | ⟨g, cap', cur, hv, hg, hb, h1, h2, h3, h4⟩
  · injection h0 with e1 e2 e3
    subst e1 e3
    subst e2
    have hnil : ss = [] := List.eq_nil_of_length_eq_zero hm
    subst hnil
    refine (AnyF.slices_SortFunc_none h_sortf none 0 _ w).mono ?_
    rintro e w' ⟨rfl, rfl⟩
    refine ⟨rfl, ?_, RowKit.Below.refl _ _⟩
    rw [show sortZ [] = [] by simp [sortZ]]
    exact hrow
  · injection hv with e1 e2 e3
    subst e1
    refine (ksort_any F base g cap m ss w hm hrow hs).mono ?_
    rintro e w' ⟨rfl, hr, hgw⟩
    exact ⟨rfl, hr, (RowKit.Below.refl base w).grown hgw hB (fun k e => by cases e; exact hg)⟩
def roomS (K : KD) : ByteArray := bs (roomT (K.S.now.length - 111) K.H)
def gF (K : KD) (t : Int) : ByteArray := if t = 1 then roomS K else K.F t
def dirtyP (K : KD) (t : Int) : Bool := if t = 1 then decide (roomS K ≠ K.kept) else decide (K.F t ≠ .empty)
def pendT (K : KD) : List Int := (rangeI (K.S.now.length - 111)).filter (dirtyP K)
def pendL (K : KD) : List (Int × ByteArray) := (pendT K).map fun t => (t, gF K t)
theorem pendL_length (K : KD) : (pendL K).length = (pendT K).length := by simp [pendL]
theorem roomS_size (K : KD) : (roomS K).size = 256 := by unfold roomS; rw [bs_size, roomT_length]
structure KOk (N : Nat) (K : KD) : Prop where
  len : K.S.now.length = N
  dim : 140 ≤ N ∧ N ≤ 400
  zero : (0 : Int) ∈ K.H
  one : (1 : Int) ∈ K.H
  used : ∀ t, K.F t ≠ .empty → t ∈ K.H ∧ t ≠ 1 ∧ (K.F t).size = 256
theorem pendT_mem {K : KD} {t : Int} : t ∈ pendT K ↔ (0 ≤ t ∧ t < ((K.S.now.length - 111 : Nat) : Int)) ∧ dirtyP K t = true := by
  unfold pendT
  rw [List.mem_filter, rangeI_mem]
theorem pendT_rise (K : KD) : (pendT K).Pairwise (· < ·) := (rangeI_strict _).filter _
theorem pendT_le (K : KD) : (pendT K).length ≤ K.S.now.length - 111 := by
  have := List.length_filter_le (dirtyP K) (rangeI (K.S.now.length - 111))
  rwa [rangeI_len] at this
theorem pend_sort {N : Nat} {K : KD} {n : Nat} (ho : HOk n K.H) (hn : n = K.S.now.length - 111) (hk : KOk N K) {ss : List Int} (hnd : ss.Nodup) (hss : ∀ x, x ∈ ss ↔ K.F x ≠ .empty) :
    (roomS K = K.kept → sortZ ss = pendT K ∧ flatF K.F ss = flatF (gF K) ss) ∧ (roomS K ≠ K.kept → sortZ (ss ++ [1]) = pendT K ∧ flatF K.F ss ++ [.int .i64 1, .string (roomS K)] = flatF (gF K) (ss ++ [1])) := by
  subst hn
  have h1 : (1 : Int) ∉ ss := fun h => (hk.used 1 ((hss 1).1 h)).2.1 rfl
  have hfl : flatF K.F ss = flatF (gF K) ss := by
    unfold flatF
    congr 1
    refine List.map_congr_left fun t ht => ?_
    unfold gF
    rw [if_neg (fun (e : t = 1) => h1 (e ▸ ht))]
  have hr : ∀ t ∈ ss, 0 ≤ t ∧ t < ((K.S.now.length - 111 : Nat) : Int) := fun t ht => ho.range t (hk.used t ((hss t).1 ht)).1
  refine ⟨fun he => ⟨?_, hfl⟩, fun he => ⟨?_, by rw [flatF_snoc, hfl]; unfold gF; rw [if_pos rfl]⟩⟩
  · refine strict_ext _ _ (sortZ_rise hnd) (pendT_rise K) fun t => ?_
    rw [(sortZ_perm ss).mem_iff, pendT_mem]
    constructor
    · intro ht
      refine ⟨hr t ht, ?_⟩
      unfold dirtyP
      rw [if_neg (fun (e : t = 1) => h1 (e ▸ ht))]
      exact decide_eq_true ((hss t).1 ht)
    · rintro ⟨_, hd⟩
      unfold dirtyP at hd
      split at hd
      · exact absurd he (of_decide_eq_true hd)
      · exact (hss t).2 (of_decide_eq_true hd)
  · have hnd2 : (ss ++ [1]).Nodup := List.nodup_append.2 ⟨hnd, by simp, fun a ha b hb => by simp at hb; subst hb; exact fun e => h1 (e ▸ ha)⟩
    refine strict_ext _ _ (sortZ_rise hnd2) (pendT_rise K) fun t => ?_
    rw [(sortZ_perm _).mem_iff, pendT_mem, List.mem_append, List.mem_singleton]
    constructor
    · rintro (ht | rfl)
      · refine ⟨hr t ht, ?_⟩
        unfold dirtyP
        rw [if_neg (fun (e : t = 1) => h1 (e ▸ ht))]
        exact decide_eq_true ((hss t).1 ht)
      · refine ⟨?_, by unfold dirtyP; rw [if_pos rfl]; exact decide_eq_true he⟩
        exact ho.range _ hk.one
    · rintro ⟨_, hd⟩
      unfold dirtyP at hd
      split at hd
      · rename_i e; exact .inr e
      · exact .inl ((hss t).2 (of_decide_eq_true hd))
section
variable {w w' : World} {P : List Nat} {g gw gm gr gd m : Nat} {O : List Nat} {K : KD}
set_option maxRecDepth 100000 in
set_option maxHeartbeats 2000000 in
theorem kpend_any {N : Nat} (h : DeskAt w P g gd m K) (hk : KOk N K) (hm : m < 1000000) :
    Calls Tryz.prog 53 #[.pointer (some ⟨g, 0, none⟩)] w fun e w' => ∃ A c, e = .returned (.slice A (pendL K).length c) ∧ w'.ownsRow w.heap.size 90 2 (.slice A (pendL K).length c) (pendL K).length (flatI (pendL K)) ∧ Below w.heap.size w w' := by
  obtain ⟨gw, gm, gr, O, rfl, h⟩ := h
  have c1 := h.blk.cell 1
  have c2 := h.blk.cell 2
  have c3 := h.blk.cell 3
  simp [deskC] at c1 c2 c3
  have hglt := h.blk.lt
  obtain ⟨D, hown, hD⟩ := h.map
  have hval : ValsOf D K.F := fun t ht hh zd => by
    by_cases he : K.F t = .empty
    · rw [(hD t ht).2 he] at hh; cases hh
    · exact ((hD t ht).1 he).2 zd
  have HSZ := Lib.hid (Nat.lt_of_le_of_lt hown.size_le hm)
  have HCOL : Hid (∀ w1, w1 = w.alloc (.cells #[.map (some gm)] 33) → Calls Tryz.prog 85 #[.func (.func 116) #[] #[.pointer (some ⟨w.heap.size, 0, none⟩)]] w1 fun e w' => ∃ (v : Value) (ss : List Int), e = .returned v ∧ KeysAll D ss ∧
      w'.ownsRow w1.heap.size 90 2 v ss.length (flatF K.F ss) ∧ Below w1.heap.size w1 w') := Lib.hid (by
    rintro w1 rfl
    refine collect_in gm m D K.F hval _ w.heap.size (by simp) (Boxed.new w 33 (.map (some gm))).cell ?_ (by have := HSZ.out; omega)
    obtain ⟨es, clock, hb, Ft, hs, hDD⟩ := hown
    exact ⟨es, clock, (Below.heap_alloc _ _ gm (Array.getElem?_eq_some_iff.1 hb).1).trans hb, Ft, hs, hDD⟩)
  have HKEY : Hid (∀ ss, KeysAll D ss → ss.Nodup ∧ ∀ x, x ∈ ss ↔ K.F x ≠ .empty) := Lib.hid (by
    intro ss hss
    refine ⟨hss.1, fun x => ⟨fun hx he => ?_, fun he => (hss.2.1 x).2 (((hD x (room_i64 h.room (hk.used x he).1).1).1 he).1)⟩⟩
    have h1 := (hss.2.1 x).1 hx
    rw [(hD x (hss.2.2 x hx)).2 he] at h1
    cases h1)
  have HLEN : Hid (∀ ss, KeysAll D ss → ss.length ≤ 400) := Lib.hid (fun ss hss => by
    have h1 := HKEY.out ss hss
    have h2 : (sortZ ss).length ≤ K.S.now.length - 111 := HOk.few ⟨sortZ_rise h1.1, fun x hx => by
      rw [(sortZ_perm ss).mem_iff, h1.2 x] at hx
      exact h.room.ok.range x (hk.used x hx).1⟩
    rw [(sortZ_perm ss).length_eq] at h2
    have := hk.dim
    have := hk.len
    omega)
  have HSORT : Hid (∀ ss, KeysAll D ss → (roomS K = K.kept → sortZ ss = pendT K ∧ flatF K.F ss = flatF (gF K) ss) ∧ (roomS K ≠ K.kept → sortZ (ss ++ [1]) = pendT K ∧ flatF K.F ss ++ [.int .i64 1, .string (roomS K)] = flatF (gF K) (ss ++ [1]))) := Lib.hid (fun ss hss => pend_sort h.room.ok rfl hk (HKEY.out ss hss).1 (HKEY.out ss hss).2)
  have HLAY : Hid (∀ w', Below w.heap.size w w' → Calls Tryz.prog 56 #[.pointer (some ⟨gr, 0, none⟩)] w' fun e w'' => e = .returned (.tuple #[.string (roomS K), .int .i64 0]) ∧ Below w'.heap.size w' w'') := Lib.hid (fun w' hb => rlay_room (n := K.S.now.length - 111) (H := K.H) ⟨h.room.blk.below hb h.room.lt, h.room.ok, h.room.size⟩ (by have := hk.dim; have := hk.len; omega))
  have HPL : Hid ((pendL K).length = (pendT K).length) := Lib.hid (pendL_length K)
  have HFL : Hid (flatI (pendL K) = flatF (gF K) (pendT K)) := Lib.hid rfl
  obtain ⟨i1, hi1, hy0, hy1, hy2⟩ := info_parts write_info
  have HI1 := Lib.hid hi1
  obtain ⟨R0, hR0⟩ : ∃ R0, R0 = roomS K := ⟨_, rfl⟩
  rw [← hR0] at HSORT HLAY
  obtain ⟨kp, hkp⟩ : ∃ kp, kp = K.kept := ⟨_, rfl⟩
  rw [← hkp] at HSORT c3
  obtain ⟨PL, hPL⟩ : ∃ PL, PL = pendL K := ⟨_, rfl⟩
  obtain ⟨PT, hPT⟩ : ∃ PT, PT = pendT K := ⟨_, rfl⟩
  obtain ⟨G, hG⟩ : ∃ G, G = gF K := ⟨_, rfl⟩
  rw [← hPL, ← hPT] at HPL
  rw [← hPL, ← hPT, ← hG] at HFL
  rw [← hPL]
  rw [← hPT, ← hG] at HSORT
  clear h hk hm hown hD hval HKEY hi1 hR0 hkp hPL hPT hG HSZ
  go_enter Tryz.func53, Tryz.ntmps53
  go_wp2_with fail
  refine (mapvals_any _ _).mono ?_
  rintro e w1 ⟨rfl, hw1⟩
  have HB1 : Hid (Below w.heap.size w w1) := Lib.hid (by rw [hw1]; exact (Below.refl _ _).alloc (Nat.le_refl _) _)
  have HC1 := Lib.hid (HCOL.out w1 hw1)
  have HSW : Hid (w.heap.size ≤ w1.heap.size) := Lib.hid HB1.out.size
  clear hw1 HCOL
  go_wp2_with fail
  refine HC1.out.mono ?_
  rintro e w2 ⟨v, ss, rfl, hss, hrow, hb2⟩
  have HB2 : Hid (Below w.heap.size w w2) := Lib.hid (HB1.out.trans (hb2.mono HSW.out))
  have HROW : Hid (w2.ownsRow w.heap.size 90 2 v ss.length (flatF K.F ss)) := Lib.hid (row_lower hrow HSW.out)
  have HSO := Lib.hid (HSORT.out ss hss)
  have HLE := Lib.hid (HLEN.out ss hss)
  obtain ⟨p, cap, rfl, -, -, -, -⟩ := row_slice hrow
  have c2b : w2.cell? ⟨g, 2, none⟩ = some (.pointer (some ⟨gr, 0, none⟩)) := (HB2.out.cell (p := ⟨g, 2, none⟩) hglt).trans c2
  have HL2 := Lib.hid (HLAY.out w2 HB2.out)
  clear hrow hb2 hss HC1 HSORT HLEN HB1 HSW c1 c2
  go_wp2_with fail
  refine HL2.out.mono ?_
  rintro e w3 ⟨rfl, hb3⟩
  have HB3 : Hid (Below w.heap.size w w3) := Lib.hid (HB2.out.trans (hb3.mono HB2.out.size))
  have HROW3 := Lib.hid (row_below HROW.out hb3)
  have c3b : w3.cell? ⟨g, 3, none⟩ = some (.string kp) := (HB3.out.cell (p := ⟨g, 3, none⟩) hglt).trans c3
  clear hb3 HL2 HLAY HB2 HROW c2b c3
  by_cases he : R0 = kp
  · subst he
    have HS1 := Lib.hid (HSO.out.1 rfl)
    have HSRT := Lib.hid (ksort2 G w.heap.size cap ss.length p ss w3 rfl (by rw [← HS1.out.2]; exact HROW3.out) (by have := HLE.out; omega) HB3.out.size)
    clear HSO HROW3
    go_wp2_with (go_at_call 87; refine HSRT.out.mono ?_; rintro e w4 ⟨rfl, hr4, hb4⟩)
    go_ret
    have e1 : ss.length = PL.length := by rw [HPL.out, ← HS1.out.1, (sortZ_perm ss).length_eq]
    refine ⟨p, cap, by rw [← e1]; rfl, ?_, HB3.out.trans hb4⟩
    rw [← e1, HFL.out, ← HS1.out.1]
    exact hr4
  · have hne : (R0.toList == kp.toList) = false := by
      rw [same_text]
      exact decide_eq_false he
    have HS1 := Lib.hid (HSO.out.2 he)
    clear he HSO
    go_wp2_with (at_builtin; refine wpList_append_lies _ rfl (.tmp 28) (.tmp 31) 73 rfl w.heap.size 90 i1 zeroW 2 24 Tryz.underlying73 HI1.out hy0 hy1 hy2 rfl (by omega) _ ss.length _ rfl (HROW3.out.alloc _) ⟨w3.heap.size, 0, none⟩ 1 1 [.int .i64 1, .string R0] rfl rfl ?c3 ?c4 (by omega) (by have := HLE.out; unfold maxLen; omega) (by have := HLE.out; omega) (by have := HB3.out.size; simp; omega) _ rfl ?_)
    case c3 => exact cells_two_new _ _ _ _
    case c4 => simp [Value.oneCell']
    intro g3 cap3 w4 hown4 hg4 _ _
    have HROW4 : Hid (w4.ownsRow w.heap.size 90 2 (.slice (some ⟨g3, 0, none⟩) (ss.length + 1) cap3) (ss.length + 1) (flatF G (ss ++ [1]))) := Lib.hid (by rw [← HS1.out.2]; exact hown4)
    have HB4 : Hid (RowKit.Below w.heap.size w w4) := Lib.hid ((HB3.out.alloc HB3.out.size _).grown hg4 (by simp; have := HB3.out.size; omega) (fun q e => (HROW3.out.lt q e).1))
    have HSRT := Lib.hid (ksort2 G w.heap.size cap3 (ss.length + 1) (some ⟨g3, 0, none⟩) (ss ++ [1]) w4 (by simp) HROW4.out (by have := HLE.out; omega) HB4.out.size)
    clear hown4 hg4 HROW3 HB3 HROW4
    go_wp2_with (go_at_call 87; refine HSRT.out.mono ?_; rintro e w5 ⟨rfl, hr5, hb5⟩)
    go_ret
    have e1 : ss.length + 1 = PL.length := by rw [HPL.out, ← HS1.out.1, (sortZ_perm _).length_eq]; simp
    refine ⟨_, cap3, by rw [← e1]; rfl, ?_, HB4.out.trans hb5⟩
    rw [← e1, HFL.out, ← HS1.out.1]
    exact hr5
end
end Go.Proofs.YtiagofgcinlnhaaGreatDoor
