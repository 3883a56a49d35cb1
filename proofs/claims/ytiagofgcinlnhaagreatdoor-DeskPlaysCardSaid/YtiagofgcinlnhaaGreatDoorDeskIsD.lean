/-
  The law's 'is': is a desk just what the law's state says? No statement is proved here.
-/
import Derived.Test.YtiagofgcinlnhaaGreatDoorWalState
import Derived.Test.YtiagofgcinlnhaaGreatDoorDeskSyncD
import Derived.Test.YtiagofgcinlnhaaGreatDoorDeskCaps
namespace Go.Proofs.YtiagofgcinlnhaaGreatDoor
open Go.RowKit
def slL (l : List (Option Nat)) (i : Nat) : Option Nat := (l[i]?).getD none
theorem slL_far {l : List (Option Nat)} {s : Nat} (h : (l.all fun x => x != some s) = true) {k : Nat} : ∀ i, i < k → slL l i ≠ some s := by
  intro i _ e
  unfold slL at e
  cases hx : l[i]? with
  | none => rw [hx] at e; cases e
  | some y =>
    rw [hx] at e
    have := List.all_eq_true.1 h y (List.mem_of_getElem? hx)
    rw [show y = some s from e] at this
    simp at this
section
variable {P : Program} {ops : Array Oper} {Q : Exit → Act → World → Prop}
def Told (sl : Nat → Option Nat) (F : (Nat → Bool) → Nat → Value → World → Prop) (L : Nat → Bool) (f : Nat → Value) (x : Act) (w : World) (j : Nat) : Prop :=
  L j = true ∧ F L j (f j) w ∧ ∀ s, sl j = some s → x.tmps[s]?.getD undef = f j
theorem wp_region_loose (k : Nat) (l : List (Option Nat)) (J : (Nat → Bool) → World → Prop) (G : Nat → World → World → Prop) (F : (Nat → Bool) → Nat → Value → World → Prop) {id : Nat} {a : Act} {w : World}
    (hm : P.follows .mixedOrders = true) (he : early .any ops = true) (hsz : ops.size = k)
    (hd : ((List.range k).all fun i => (List.range k).all fun j => i == j || slL l i == none || slL l i != slL l j) = true) (hs : ((List.range k).all fun i => match slL l i with | some s => decide (s < a.tmps.size) | none => true) = true)
    (hF : ∀ (L : Nat → Bool) (o i : Nat) (v : Value) (w w' : World), i ≠ o → L i = true → L o = false → (∀ n, L n = true → ∀ j ∈ waitsFor .any ops n, L j = true) → F L i v w → J L w → G o w w' → F (fun j => if o = j then true else L j) i v w')
    (hJ : ∀ (L : Nat → Bool) (o : Nat) (w w' : World), L o = false → J L w → G o w w' → J (fun j => if o = j then true else L j) w') (h0 : J (fun _ => false) w.drew)
    (hops : ∀ o, o < k → ∀ (L : Nat → Bool) (f : Nat → Value) (x : Act) (w' : World), (∀ n, L n = true → ∀ j ∈ waitsFor .any ops n, L j = true) → (∀ s, (∀ i, i < k → slL l i ≠ some s) → x.tmps[s]? = a.tmps[s]?) → L o = false → J L w' → (∀ j ∈ waitsFor .any ops o, Told (slL l) F L f x w' j) → wpOp P ops Q o (fun x' w'' => ∃ v, x' = x.put (slL l o) v ∧ G o w' w'' ∧ F (fun j => if o = j then true else L j) o v w'') x w')
    (hrest : ∀ (L : Nat → Bool) (f : Nat → Value) (w' : World), (∀ j, j < k → L j = true) → J L w' → (∀ i, i < k → F L i (f i) w') → Q .normal ⟨putSlots (slL l) f k a.tmps, a.defers⟩ w') : (Code.region id ops true).wp P Q a w := by
  refine wp_region_free k (slL l) (fun L f w' => J L w' ∧ ∀ i, i < k → L i = true → F L i (f i) w') hm he hsz hd hs ⟨h0, (fun _ _ h => by cases h)⟩ ?_ ?_
  · intro o ho L f x w' hc hfr hLo ⟨hJw, hFs⟩ hw hv
    refine wpOp_mono (fun x' w'' h => ?_) (hops o ho L f x w' hc hfr hLo hJw (fun j hj => ?_))
    · obtain ⟨v, rfl, hg, hf⟩ := h
      refine ⟨v, rfl, hJ L o _ _ hLo hJw hg, fun i hi hL => ?_⟩
      by_cases e : o = i
      · subst e
        show F _ o (if o = o then v else f o) w''
        rw [if_pos rfl]
        exact hf
      · have hL' : L i = true := by simpa only [if_neg e] using hL
        show F _ i (if o = i then v else f i) w''
        rw [if_neg e]
        exact hF L o i _ _ _ (fun e' => e e'.symm) hL' hLo hc (hFs i hi hL') hJw hg
    · have hlt : j < k := by
        have := List.all_eq_true.1 (List.all_eq_true.1 he o (List.mem_range.2 (by rw [hsz]; exact ho))) j hj
        have : j < o := by simpa using this
        omega
      exact ⟨hw j hj, hFs j hlt (hw j hj), fun s hs => hv j s hlt (hw j hj) hs⟩
  · intro L f w' hall ⟨hJw, hFs⟩
    exact hrest L f w' hall hJw (fun i hi => hFs i hi (hall i hi))
theorem Told.val {sl : Nat → Option Nat} {F : (Nat → Bool) → Nat → Value → World → Prop} {L : Nat → Bool} {f : Nat → Value} {x : Act} {w : World} {j s : Nat} {v : Value} (h : Told sl F L f x w j) (hs : sl j = some s) (hv : F L j (f j) w → f j = v) : x.tmps[s]?.getD undef = v := (h.2.2 s hs).trans (hv h.2.1)
def LooseF (V : List (Option Value)) (M : (Nat → Bool) → Nat → Value → World → Prop) (L : Nat → Bool) (i : Nat) (v : Value) (w : World) : Prop := (∀ u, V[i]? = some (some u) → v = u) ∧ M L i v w
theorem LooseF.known {V : List (Option Value)} {M : (Nat → Bool) → Nat → Value → World → Prop} {L : Nat → Bool} {i : Nat} {v : Value} {w : World} (h : V[i]? = some (some v)) (hm : M L i v w) : LooseF V M L i v w := ⟨fun u hu => by rw [h] at hu; exact Option.some.inj (Option.some.inj hu), hm⟩
theorem LooseF.loose {V : List (Option Value)} {M : (Nat → Bool) → Nat → Value → World → Prop} {L : Nat → Bool} {i : Nat} {v : Value} {w : World} (h : V[i]? = some none) (hm : M L i v w) : LooseF V M L i v w := ⟨(fun u hu => by rw [h] at hu; cases hu), hm⟩
theorem LooseF.is {V : List (Option Value)} {M : (Nat → Bool) → Nat → Value → World → Prop} {L : Nat → Bool} {i : Nat} {v u : Value} {w : World} (h : LooseF V M L i v w) (hu : V[i]? = some (some u)) : v = u := h.1 u hu
theorem Told.is {sl : Nat → Option Nat} {V : List (Option Value)} {M : (Nat → Bool) → Nat → Value → World → Prop} {L : Nat → Bool} {f : Nat → Value} {x : Act} {w : World} {j s : Nat} {v : Value} (h : Told sl (LooseF V M) L f x w j) (hs : sl j = some s) (hv : V[j]? = some (some v)) : x.tmps[s]?.getD undef = v := (h.2.2 s hs).trans (h.2.1.is hv)
theorem wp_region_loosely (k : Nat) (l : List (Option Nat)) (V : List (Option Value)) (J : (Nat → Bool) → World → Prop) (G : Nat → World → World → Prop) (M : (Nat → Bool) → Nat → Value → World → Prop) {id : Nat} {a : Act} {w : World}
    (hm : P.follows .mixedOrders = true) (he : early .any ops = true) (hsz : ops.size = k)
    (hd : ((List.range k).all fun i => (List.range k).all fun j => i == j || slL l i == none || slL l i != slL l j) = true) (hs : ((List.range k).all fun i => match slL l i with | some s => decide (s < a.tmps.size) | none => true) = true)
    (hM : ∀ (L : Nat → Bool) (o i : Nat) (v : Value) (w w' : World), i ≠ o → L i = true → L o = false → (∀ n, L n = true → ∀ j ∈ waitsFor .any ops n, L j = true) → M L i v w → J L w → G o w w' → M (fun j => if o = j then true else L j) i v w')
    (hJ : ∀ (L : Nat → Bool) (o : Nat) (w w' : World), L o = false → J L w → G o w w' → J (fun j => if o = j then true else L j) w') (h0 : J (fun _ => false) w.drew)
    (hops : ∀ o, o < k → ∀ (L : Nat → Bool) (f : Nat → Value) (x : Act) (w' : World), (∀ n, L n = true → ∀ j ∈ waitsFor .any ops n, L j = true) → (∀ s, (∀ i, i < k → slL l i ≠ some s) → x.tmps[s]? = a.tmps[s]?) → L o = false → J L w' → (∀ j ∈ waitsFor .any ops o, Told (slL l) (LooseF V M) L f x w' j) → wpOp P ops Q o (fun x' w'' => ∃ v, x' = x.put (slL l o) v ∧ G o w' w'' ∧ LooseF V M (fun j => if o = j then true else L j) o v w'') x w')
    (hrest : ∀ (L : Nat → Bool) (f : Nat → Value) (w' : World), (∀ j, j < k → L j = true) → J L w' → (∀ i, i < k → LooseF V M L i (f i) w') → Q .normal ⟨putSlots (slL l) f k a.tmps, a.defers⟩ w') : (Code.region id ops true).wp P Q a w :=
  wp_region_loose k l J G (LooseF V M) hm he hsz hd hs (fun L o i v w w' h1 h2 h3 h4 h5 h6 h7 => ⟨h5.1, hM L o i v w w' h1 h2 h3 h4 h5.2 h6 h7⟩) hJ h0 hops hrest
variable {K : Act → World → Prop} {x : Act} {w w' : World} {o : Oper} {i : Nat}
theorem below_dn {B : Nat} (w : World) (n : Nat) : Below B w (w.drewN n) := ⟨rfl, rfl, rfl, Nat.le_refl _, fun _ _ => rfl⟩
theorem wanted_none (hg : o.guard = none) : Region.wanted o (yielded ops x.tmps) = true := by simp [Region.wanted, hg]
theorem guard_is {j s : Nat} {b : Bool} (hg : o.guard = some (j, b)) (hd : (ops[j]?).bind (·.dst) = some s) {c : Bool} (ht : x.tmps[s]?.getD undef = .bool c) : Region.wanted o (yielded ops x.tmps) = (c == b) := by
  have h1 : x.tmps[s]? = some (.bool c) := by
    cases h : x.tmps[s]? with
    | none => rw [h] at ht; cases ht
    | some v => rw [h] at ht; exact congrArg some ht
  unfold Region.wanted yielded
  cases b <;> cases c <;> simp [hg, hd, h1]
theorem wpOp_on {v : Value} (hi : ops[i]? = some o) (hg : Region.wanted o (yielded ops x.tmps) = true) (hr : (execOp x.eval o).run P w = .ok (.value v) w') (hK : K (x.put o.dst v) w') : wpOp P ops Q i K x w := by
  unfold wpOp
  simp only [hi]
  rw [if_pos hg]
  refine .inl ?_
  unfold Oper.wp
  rw [hr]
  exact hK
theorem wpOp_enter {f : FuncId} {args : Array Value} (hi : ops[i]? = some o) (hg : Region.wanted o (yielded ops x.tmps) = true) (hr : (execOp x.eval o).run P w = .ok (.enter f args) w) (hc : Calls P f args w fun e w' => ∃ v, e = .returned v ∧ K (x.put o.dst v) w') : wpOp P ops Q i K x w := by
  unfold wpOp
  simp only [hi]
  rw [if_pos hg]
  refine .inl ?_
  unfold Oper.wp
  rw [hr]
  exact hc.mono fun e w'' ⟨v, he, hK⟩ => by subst he; exact hK
theorem wpOp_off (hi : ops[i]? = some o) (hg : Region.wanted o (yielded ops x.tmps) = false) (hK : K (x.put o.dst undef) w) : wpOp P ops Q i K x w := by
  unfold wpOp
  simp only [hi]
  rw [if_neg (by rw [hg]; decide)]
  exact hK
end
def wantD (s : DocS) (i : Nat) : ByteArray := if s.on.getD i .empty ≠ .empty then s.on.getD i .empty else s.home.getD i .empty
theorem ba_ext {a b : ByteArray} (h : a.toList = b.toList) : a = b := by
  rw [Lib.toList_data, Lib.toList_data] at h
  cases a; cases b
  congr 1
  exact Array.ext' h
def isD (K : KD) (s : DocS) (n : Nat) : Bool := decide (K.H = s.used) && decide (pendT K = pendD s) && decide (∀ i, i < n → (getR K (i : Int)).1 = wantD s i)
set_option maxRecDepth 100000 in
set_option maxHeartbeats 8000000 in
theorem is11_any {w : World} {P : List Nat} {g gd m B x N n : Nat} {K : KD} {s : DocS} (hk : DeskAt w P g gd m K) (hok : KOk N K) (hm : m < 1000000) (hb0 : K.bad = 0) (hup : K.up = true) (hz : ∀ x ∈ K.S.now, x.size ≤ 100000) (hF : ∀ t, (K.F t).size ≤ 100000)
    (hget : ∀ i : Nat, i < n → (getR K (i : Int)).2 = 0) (hn : n = N - 111) (hd : DocAt w B x s) (hh : s.home.length = n) (ho : s.on.length = n) (hul : s.used.length ≤ 100000) (hwl : s.was.length ≤ 100000) (hHl : K.H.length ≤ 100000) :
    Calls Tryz.prog 29 #[.pointer (some ⟨g, 0, none⟩), .pointer (some ⟨x, 0, none⟩)] w fun e w' => e = .returned (.bool (isD K s n)) ∧ Below w.heap.size w w' := by
  have hdim := hok.dim
  have hlen := hok.len
  have HROOM := Lib.hid (kroom_any hk)
  rw [hlen, ← hn] at HROOM
  have HDEX := Lib.hid hd
  obtain ⟨vh, vo, vu, vw, hdi⟩ := hd
  obtain ⟨ph, ch, hv0, -⟩ := row_slice' hdi.home
  obtain ⟨po, co, hv1, -⟩ := row_slice' hdi.on
  obtain ⟨pu, cu, hv2, -⟩ := row_slice' hdi.used
  rw [hh] at hv0
  rw [ho] at hv1
  subst hv0 hv1 hv2
  have HDI := Lib.hid hdi
  have HK := Lib.hid hk
  have HOK := Lib.hid hok
  have HGET := Lib.hid hget
  have HZ := Lib.hid hz
  have HFF := Lib.hid hF
  have HHH := Lib.hid hh
  have HOO := Lib.hid ho
  have HUL := Lib.hid hul
  have HWL := Lib.hid hwl
  have HHL := Lib.hid hHl
  have hnI : (n : Int) ≤ 289 := by omega
  have hn2 : n ≤ 289 := by omega
  obtain ⟨R, hR⟩ : ∃ R, R = isD K s n := ⟨_, rfl⟩
  rw [← hR]
  have HR := Lib.hid hR
  have HPT : Hid ((pendT K).length ≤ 1000) := Lib.hid (by have := pendT_le K; rw [hlen] at this; omega)
  have HPD : Hid ((pendD s).length ≤ 1000) := Lib.hid (by
    unfold pendD
    have h1 := List.length_filter_le (dirtyD s) (rangeI s.on.length)
    rw [rangeI_len] at h1
    omega)
  clear hk hok hget hz hF hdi hh ho hul hwl hHl hR hdim hlen
  go_enter Tryz.func29, Tryz.ntmps29
  go_wp2_with fail
  refine HROOM.out.mono ?_
  rintro e w1 ⟨rfl, hr1, hb1⟩
  obtain ⟨gr, hgr⟩ : ∃ gr, gr = w.heap.size := ⟨_, rfl⟩
  rw [← hgr] at hr1 ⊢
  have HB1 := Lib.hid hb1
  have HALL : Hid (∀ w', Below w1.heap.size w1 w' → Calls Tryz.prog 61 #[.pointer (some ⟨gr, 0, none⟩)] w' fun e w'' => ∃ A c, e = .returned (.slice A K.H.length c) ∧ w''.ownsRow w'.heap.size 3 1 (.slice A K.H.length c) K.H.length (K.H.map (Value.int .i64)) ∧ Below w'.heap.size w' w'') := Lib.hid (fun w' hb => rall_any (hr1.below hb))
  have HSZ : Hid (∀ w', Below w1.heap.size w1 w' → Calls Tryz.prog 50 #[.pointer (some ⟨gr, 0, none⟩)] w' fun e w'' => e = .returned (.int .i64 (n : Int)) ∧ w'' = w') := Lib.hid (fun w' hb => size_any (hr1.below hb))
  have HDT : Hid (∀ w', Below w1.heap.size w1 w' → Calls Tryz.prog 34 #[.pointer (some ⟨g, 0, none⟩)] w' fun e w'' => ∃ A c, e = .returned (.slice A (pendT K).length c) ∧ w''.ownsRow w'.heap.size 3 1 (.slice A (pendT K).length c) (pendT K).length ((pendT K).map (Value.int .i64)) ∧ Below w'.heap.size w' w'') := Lib.hid (fun w' hb => kdirty_any (HK.out.below (HB1.out.trans (hb.mono HB1.out.size))) HOK.out hm)
  have HDD : Hid (∀ w', Below w1.heap.size w1 w' → Calls Tryz.prog 24 #[.pointer (some ⟨x, 0, none⟩)] w' fun e w'' => ∃ A c, e = .returned (.slice A (pendD s).length c) ∧ w''.ownsRow w'.heap.size 3 1 (.slice A (pendD s).length c) (pendD s).length ((pendD s).map (Value.int .i64)) ∧ Below w'.heap.size w' w'') := Lib.hid (fun w' hb => ddirty11_any (HDEX.out.below (HB1.out.trans (hb.mono HB1.out.size))) (by have := HOO.out; have := HUL.out; have := HWL.out; omega))
  have HUI : Hid (∀ w', Below w1.heap.size w1 w' → Ints w' w'.heap.size pu s.used) := Lib.hid (fun w' hb => row_intsV rfl ((HDI.out.below (HB1.out.trans (hb.mono HB1.out.size))).used))
  have HC : Hid (∀ w', Below w1.heap.size w1 w' → w'.cell? ⟨x, 0, none⟩ = some (.slice ph n ch) ∧ w'.cell? ⟨x, 2, none⟩ = some (.slice pu s.used.length cu)) := Lib.hid (fun w' hb => by
    have hd := HDI.out.below (HB1.out.trans (hb.mono HB1.out.size))
    have a := hd.blk.cell 0
    have b := hd.blk.cell 2
    simp at a b
    exact ⟨a, b⟩)
  clear hgr hr1 hb1 HROOM
  by_cases hs1 : K.H = s.used
  rotate_left
  · have HS1 : Hid (∀ w' A c, Below w1.heap.size w1 w' → Ints w' w'.heap.size A K.H → Calls Tryz.prog 49 #[.slice A K.H.length c, .slice pu s.used.length cu] w' fun e w'' => e = .returned (.bool false) ∧ Below w'.heap.size w' w'') := Lib.hid (fun w' A c hb hi => by
      refine (ksames_any A pu K.H.length s.used.length c cu K.H s.used w' rfl rfl hi (HUI.out w' hb) (by have := HHL.out; omega) (by have := HUL.out; omega)).mono ?_
      rintro e w'' ⟨rfl, q, rfl⟩
      rw [decide_eq_false hs1]
      exact ⟨rfl, below_dn _ _⟩)
    have HE : Hid (R = false) := Lib.hid (by rw [HR.out]; unfold isD; rw [decide_eq_false hs1]; rfl)
    clear hs1
    go_upto_region 2 with fail
    refine wp_region_loosely 30 [some 12, some 13, some 14, some 15, some 16, some 17, some 18, some 19, some 20, some 21, some 22, some 23, some 24, some 25, some 26, some 27, some 28, some 29, some 30, some 31, some 32, some 33, some 34, some 35, some 36, some 37, some 38, some 39, some 40, some 41] [some (.pointer (some ⟨gr, 0, none⟩)), some (.bool false), some (.bool false), some (.pointer (some ⟨gr, 0, none⟩)), none, some (.pointer (some ⟨x, 0, none⟩)), some (.pointer (some ⟨x, 0, none⟩)), some (.pointer (some ⟨x, 2, none⟩)), some (.slice pu s.used.length cu), some (.bool false), some (.bool true), some (.bool true), some (.bool true), some (undef), some (undef), some (undef), some (undef), some (undef), some (undef), some (undef), some (undef), some (.bool true), some (.bool true), some (undef), some (undef), some (undef), some (undef), some (undef), some (undef), some (.bool true)] (fun _ w' => Below w1.heap.size w1 w') (fun _ w w' => Below w.heap.size w w') (fun L i v w => (i = 4 → (fun _ v w => ∃ A c, v = .slice A (K.H).length c ∧ Ints w w.heap.size A (K.H)) L v w)) (by kernel_rfl) (by kernel_rfl) rfl (by kernel_rfl) (by kernel_rfl) ?hM (fun _ _ _ _ _ h g => h.trans (g.mono h.size)) (below_dn _ 1) ?hops ?hrest
    case hM =>
      intro L o i v w w' hne hLi hLo hcl h hj hg
      exact (fun e => by
        have hh := h e
        subst e
        exact (match hh with | ⟨A, c, e, hi⟩ => ⟨A, c, e, (hi.below hg).more hg.size⟩))
    case hops =>
      intro o ho L f x' w2 hcl hfr hLo hj hw
      rcases (show o = 0 ∨ o = 1 ∨ o = 2 ∨ o = 3 ∨ o = 4 ∨ o = 5 ∨ o = 6 ∨ o = 7 ∨ o = 8 ∨ o = 9 ∨ o = 10 ∨ o = 11 ∨ o = 12 ∨ o = 13 ∨ o = 14 ∨ o = 15 ∨ o = 16 ∨ o = 17 ∨ o = 18 ∨ o = 19 ∨ o = 20 ∨ o = 21 ∨ o = 22 ∨ o = 23 ∨ o = 24 ∨ o = 25 ∨ o = 26 ∨ o = 27 ∨ o = 28 ∨ o = 29 by omega) with rfl | rfl | rfl | rfl | rfl | rfl | rfl | rfl | rfl | rfl | rfl | rfl | rfl | rfl | rfl | rfl | rfl | rfl | rfl | rfl | rfl | rfl | rfl | rfl | rfl | rfl | rfl | rfl | rfl | rfl
      · have e1 : x'.tmps[5]?.getD undef = .pointer (some ⟨gr, 0, none⟩) := by rw [hfr 5 (slL_far (by kernel_rfl))]; rfl
        clear hw hfr hcl hLo
        refine wpOp_on (v := .pointer (some ⟨gr, 0, none⟩)) (w' := w2) rfl (wanted_none rfl) ?_ ⟨_, rfl, (Below.refl _ _), .known rfl (fun e => absurd e (by decide))⟩
        go_simp
      · have e1 : x'.tmps[12]?.getD undef = .pointer (some ⟨gr, 0, none⟩) := (hw 0 (of_decide_eq_true (by kernel_rfl))).is rfl rfl
        clear hw hfr hcl hLo
        refine wpOp_on (v := .bool false) (w' := w2) rfl (wanted_none rfl) ?_ ⟨_, rfl, (Below.refl _ _), .known rfl (fun e => absurd e (by decide))⟩
        go_simp
      · have e1 : x'.tmps[13]?.getD undef = .bool false := (hw 1 (of_decide_eq_true (by kernel_rfl))).is rfl rfl
        clear hw hfr hcl hLo
        refine wpOp_on (v := .bool false) (w' := w2) rfl (wanted_none rfl) ?_ ⟨_, rfl, (Below.refl _ _), .known rfl (fun e => absurd e (by decide))⟩
        go_simp
      · have eg : x'.tmps[14]?.getD undef = .bool false := (hw 2 (of_decide_eq_true (by kernel_rfl))).is rfl rfl
        have e1 : x'.tmps[5]?.getD undef = .pointer (some ⟨gr, 0, none⟩) := by rw [hfr 5 (slL_far (by kernel_rfl))]; rfl
        clear hw hfr hcl hLo
        refine wpOp_on (v := .pointer (some ⟨gr, 0, none⟩)) (w' := w2) rfl (guard_is (b := false) rfl rfl eg) ?_ ⟨_, rfl, (Below.refl _ _), .known rfl (fun e => absurd e (by decide))⟩
        go_simp
      · have eg : x'.tmps[14]?.getD undef = .bool false := (hw 2 (of_decide_eq_true (by kernel_rfl))).is rfl rfl
        have e1 : x'.tmps[15]?.getD undef = .pointer (some ⟨gr, 0, none⟩) := (hw 3 (of_decide_eq_true (by kernel_rfl))).is rfl rfl
        clear hw hfr hcl hLo
        refine wpOp_enter (f := 61) (args := #[.pointer (some ⟨gr, 0, none⟩)]) rfl (guard_is (b := false) rfl rfl eg) (by go_simp) ((HALL.out w2 hj).mono ?_)
        rintro e wy ⟨A, c, rfl, hrow, hb⟩
        exact ⟨_, rfl, _, rfl, hb, .loose rfl (fun _ => ⟨A, c, rfl, row_ints hrow⟩)⟩
      · have eg : x'.tmps[14]?.getD undef = .bool false := (hw 2 (of_decide_eq_true (by kernel_rfl))).is rfl rfl
        have e1 : x'.tmps[1]?.getD undef = .pointer (some ⟨x, 0, none⟩) := by rw [hfr 1 (slL_far (by kernel_rfl))]; rfl
        clear hw hfr hcl hLo
        refine wpOp_on (v := .pointer (some ⟨x, 0, none⟩)) (w' := w2) rfl (guard_is (b := false) rfl rfl eg) ?_ ⟨_, rfl, (Below.refl _ _), .known rfl (fun e => absurd e (by decide))⟩
        go_simp
      · have eg : x'.tmps[14]?.getD undef = .bool false := (hw 2 (of_decide_eq_true (by kernel_rfl))).is rfl rfl
        have e1 : x'.tmps[17]?.getD undef = .pointer (some ⟨x, 0, none⟩) := (hw 5 (of_decide_eq_true (by kernel_rfl))).is rfl rfl
        clear hw hfr hcl hLo
        refine wpOp_on (v := .pointer (some ⟨x, 0, none⟩)) (w' := w2) rfl (guard_is (b := false) rfl rfl eg) ?_ ⟨_, rfl, (Below.refl _ _), .known rfl (fun e => absurd e (by decide))⟩
        go_simp
      · have eg : x'.tmps[14]?.getD undef = .bool false := (hw 2 (of_decide_eq_true (by kernel_rfl))).is rfl rfl
        have e1 : x'.tmps[18]?.getD undef = .pointer (some ⟨x, 0, none⟩) := (hw 6 (of_decide_eq_true (by kernel_rfl))).is rfl rfl
        clear hw hfr hcl hLo
        refine wpOp_on (v := .pointer (some ⟨x, 2, none⟩)) (w' := w2) rfl (guard_is (b := false) rfl rfl eg) ?_ ⟨_, rfl, (Below.refl _ _), .known rfl (fun e => absurd e (by decide))⟩
        go_simp
      · have eg : x'.tmps[14]?.getD undef = .bool false := (hw 2 (of_decide_eq_true (by kernel_rfl))).is rfl rfl
        have e1 : x'.tmps[19]?.getD undef = .pointer (some ⟨x, 2, none⟩) := (hw 7 (of_decide_eq_true (by kernel_rfl))).is rfl rfl
        obtain ⟨z0, z2⟩ := HC.out w2 hj
        clear hw hfr hcl hLo
        refine wpOp_on (v := .slice pu s.used.length cu) (w' := w2) rfl (guard_is (b := false) rfl rfl eg) ?_ ⟨_, rfl, (Below.refl _ _), .known rfl (fun e => absurd e (by decide))⟩
        go_simp
      · have eg : x'.tmps[14]?.getD undef = .bool false := (hw 2 (of_decide_eq_true (by kernel_rfl))).is rfl rfl
        have e1 := (hw 4 (of_decide_eq_true (by kernel_rfl)))
        have e2 : x'.tmps[20]?.getD undef = .slice pu s.used.length cu := (hw 8 (of_decide_eq_true (by kernel_rfl))).is rfl rfl
        obtain ⟨A1, k1, ev1, hi1⟩ := e1.2.1.2 rfl
        have e1' : x'.tmps[16]?.getD undef = .slice A1 K.H.length k1 := (e1.2.2 16 rfl).trans ev1
        clear hw hfr hcl hLo
        refine wpOp_enter (f := 49) (args := #[.slice A1 K.H.length k1, .slice pu s.used.length cu]) rfl (guard_is (b := false) rfl rfl eg) (by go_simp) ((HS1.out w2 A1 k1 hj hi1).mono ?_)
        rintro e wy ⟨rfl, hb⟩
        exact ⟨_, rfl, _, rfl, hb, .known rfl (fun e => absurd e (by decide))⟩
      · have eg : x'.tmps[14]?.getD undef = .bool false := (hw 2 (of_decide_eq_true (by kernel_rfl))).is rfl rfl
        have e1 : x'.tmps[21]?.getD undef = .bool false := (hw 9 (of_decide_eq_true (by kernel_rfl))).is rfl rfl
        clear hw hfr hcl hLo
        refine wpOp_on (v := .bool true) (w' := w2) rfl (guard_is (b := false) rfl rfl eg) ?_ ⟨_, rfl, (Below.refl _ _), .known rfl (fun e => absurd e (by decide))⟩
        go_simp
      · have e1 : x'.tmps[14]?.getD undef = .bool false := (hw 2 (of_decide_eq_true (by kernel_rfl))).is rfl rfl
        have e2 : x'.tmps[22]?.getD undef = .bool true := (hw 10 (of_decide_eq_true (by kernel_rfl))).is rfl rfl
        clear hw hfr hcl hLo
        refine wpOp_on (v := .bool true) (w' := w2) rfl (wanted_none rfl) ?_ ⟨_, rfl, (Below.refl _ _), .known rfl (fun e => absurd e (by decide))⟩
        go_simp
      · have e1 : x'.tmps[23]?.getD undef = .bool true := (hw 11 (of_decide_eq_true (by kernel_rfl))).is rfl rfl
        clear hw hfr hcl hLo
        refine wpOp_on (v := .bool true) (w' := w2) rfl (wanted_none rfl) ?_ ⟨_, rfl, (Below.refl _ _), .known rfl (fun e => absurd e (by decide))⟩
        go_simp
      · have eg : x'.tmps[24]?.getD undef = .bool true := (hw 12 (of_decide_eq_true (by kernel_rfl))).is rfl rfl
        exact wpOp_off rfl (guard_is (b := false) rfl rfl eg) ⟨_, rfl, (Below.refl _ _), .known rfl (fun e => absurd e (by decide))⟩
      · have eg : x'.tmps[24]?.getD undef = .bool true := (hw 12 (of_decide_eq_true (by kernel_rfl))).is rfl rfl
        exact wpOp_off rfl (guard_is (b := false) rfl rfl eg) ⟨_, rfl, (Below.refl _ _), .known rfl (fun e => absurd e (by decide))⟩
      · have eg : x'.tmps[24]?.getD undef = .bool true := (hw 12 (of_decide_eq_true (by kernel_rfl))).is rfl rfl
        exact wpOp_off rfl (guard_is (b := false) rfl rfl eg) ⟨_, rfl, (Below.refl _ _), .known rfl (fun e => absurd e (by decide))⟩
      · have eg : x'.tmps[24]?.getD undef = .bool true := (hw 12 (of_decide_eq_true (by kernel_rfl))).is rfl rfl
        exact wpOp_off rfl (guard_is (b := false) rfl rfl eg) ⟨_, rfl, (Below.refl _ _), .known rfl (fun e => absurd e (by decide))⟩
      · have eg : x'.tmps[24]?.getD undef = .bool true := (hw 12 (of_decide_eq_true (by kernel_rfl))).is rfl rfl
        exact wpOp_off rfl (guard_is (b := false) rfl rfl eg) ⟨_, rfl, (Below.refl _ _), .known rfl (fun e => absurd e (by decide))⟩
      · have eg : x'.tmps[24]?.getD undef = .bool true := (hw 12 (of_decide_eq_true (by kernel_rfl))).is rfl rfl
        exact wpOp_off rfl (guard_is (b := false) rfl rfl eg) ⟨_, rfl, (Below.refl _ _), .known rfl (fun e => absurd e (by decide))⟩
      · have eg : x'.tmps[24]?.getD undef = .bool true := (hw 12 (of_decide_eq_true (by kernel_rfl))).is rfl rfl
        exact wpOp_off rfl (guard_is (b := false) rfl rfl eg) ⟨_, rfl, (Below.refl _ _), .known rfl (fun e => absurd e (by decide))⟩
      · have eg : x'.tmps[24]?.getD undef = .bool true := (hw 12 (of_decide_eq_true (by kernel_rfl))).is rfl rfl
        exact wpOp_off rfl (guard_is (b := false) rfl rfl eg) ⟨_, rfl, (Below.refl _ _), .known rfl (fun e => absurd e (by decide))⟩
      · have e1 : x'.tmps[24]?.getD undef = .bool true := (hw 12 (of_decide_eq_true (by kernel_rfl))).is rfl rfl
        have e2 : x'.tmps[32]?.getD undef = undef := (hw 20 (of_decide_eq_true (by kernel_rfl))).is rfl rfl
        clear hw hfr hcl hLo
        refine wpOp_on (v := .bool true) (w' := w2) rfl (wanted_none rfl) ?_ ⟨_, rfl, (Below.refl _ _), .known rfl (fun e => absurd e (by decide))⟩
        go_simp
      · have e1 : x'.tmps[33]?.getD undef = .bool true := (hw 21 (of_decide_eq_true (by kernel_rfl))).is rfl rfl
        clear hw hfr hcl hLo
        refine wpOp_on (v := .bool true) (w' := w2) rfl (wanted_none rfl) ?_ ⟨_, rfl, (Below.refl _ _), .known rfl (fun e => absurd e (by decide))⟩
        go_simp
      · have eg : x'.tmps[34]?.getD undef = .bool true := (hw 22 (of_decide_eq_true (by kernel_rfl))).is rfl rfl
        exact wpOp_off rfl (guard_is (b := false) rfl rfl eg) ⟨_, rfl, (Below.refl _ _), .known rfl (fun e => absurd e (by decide))⟩
      · have eg : x'.tmps[34]?.getD undef = .bool true := (hw 22 (of_decide_eq_true (by kernel_rfl))).is rfl rfl
        exact wpOp_off rfl (guard_is (b := false) rfl rfl eg) ⟨_, rfl, (Below.refl _ _), .known rfl (fun e => absurd e (by decide))⟩
      · have eg : x'.tmps[34]?.getD undef = .bool true := (hw 22 (of_decide_eq_true (by kernel_rfl))).is rfl rfl
        exact wpOp_off rfl (guard_is (b := false) rfl rfl eg) ⟨_, rfl, (Below.refl _ _), .known rfl (fun e => absurd e (by decide))⟩
      · have eg : x'.tmps[34]?.getD undef = .bool true := (hw 22 (of_decide_eq_true (by kernel_rfl))).is rfl rfl
        exact wpOp_off rfl (guard_is (b := false) rfl rfl eg) ⟨_, rfl, (Below.refl _ _), .known rfl (fun e => absurd e (by decide))⟩
      · have eg : x'.tmps[34]?.getD undef = .bool true := (hw 22 (of_decide_eq_true (by kernel_rfl))).is rfl rfl
        exact wpOp_off rfl (guard_is (b := false) rfl rfl eg) ⟨_, rfl, (Below.refl _ _), .known rfl (fun e => absurd e (by decide))⟩
      · have eg : x'.tmps[34]?.getD undef = .bool true := (hw 22 (of_decide_eq_true (by kernel_rfl))).is rfl rfl
        exact wpOp_off rfl (guard_is (b := false) rfl rfl eg) ⟨_, rfl, (Below.refl _ _), .known rfl (fun e => absurd e (by decide))⟩
      · have e1 : x'.tmps[34]?.getD undef = .bool true := (hw 22 (of_decide_eq_true (by kernel_rfl))).is rfl rfl
        have e2 : x'.tmps[40]?.getD undef = undef := (hw 28 (of_decide_eq_true (by kernel_rfl))).is rfl rfl
        clear hw hfr hcl hLo
        refine wpOp_on (v := .bool true) (w' := w2) rfl (wanted_none rfl) ?_ ⟨_, rfl, (Below.refl _ _), .known rfl (fun e => absurd e (by decide))⟩
        go_simp
    case hrest =>
      intro L f wz hL hj hF
      have f29 : f 29 = .bool true := (hF 29 (by omega)).is rfl
      clear hF hL
      simp only [putSlots, slL, List.range, List.range.loop, List.foldl, List.getElem?_cons_zero, List.getElem?_cons_succ, Option.getD_some, List.setIfInBounds_toArray, List.set_cons_succ, List.set_cons_zero, f29]
      clear f29
      have HJ := Lib.hid hj
      clear hj
      go_wp2_with fail
      go_ret
      exact ⟨by rw [HE.out]; rfl, HB1.out.trans (HJ.out.mono HB1.out.size)⟩
  have HS1 : Hid (∀ w' A c, Below w1.heap.size w1 w' → Ints w' w'.heap.size A K.H → Calls Tryz.prog 49 #[.slice A K.H.length c, .slice pu s.used.length cu] w' fun e w'' => e = .returned (.bool true) ∧ Below w'.heap.size w' w'') := Lib.hid (fun w' A c hb hi => by
    refine (ksames_any A pu K.H.length s.used.length c cu K.H s.used w' rfl rfl hi (HUI.out w' hb) (by have := HHL.out; omega) (by have := HUL.out; omega)).mono ?_
    rintro e w'' ⟨rfl, q, rfl⟩
    rw [decide_eq_true hs1]
    exact ⟨rfl, below_dn _ _⟩)
  have HDS : Hid (∀ (b : Bool), decide (pendT K = pendD s) = b → ∀ w' A c A2 c2, Below w1.heap.size w1 w' → Ints w' w'.heap.size A (pendT K) → Ints w' w'.heap.size A2 (pendD s) → Calls Tryz.prog 49 #[.slice A (pendT K).length c, .slice A2 (pendD s).length c2] w' fun e w'' => e = .returned (.bool b) ∧ Below w'.heap.size w' w'') := Lib.hid (fun b hb' w' A c A2 c2 hb hi hi2 => by
    refine (ksames_any A A2 (pendT K).length (pendD s).length c c2 (pendT K) (pendD s) w' rfl rfl hi hi2 (by have := HPT.out; omega) (by have := HPD.out; omega)).mono ?_
    rintro e w'' ⟨rfl, q, rfl⟩
    rw [hb']
    exact ⟨rfl, below_dn _ _⟩)
  by_cases hs2 : pendT K = pendD s
  rotate_left
  · have HS2 := Lib.hid (HDS.out false (decide_eq_false hs2))
    have HE : Hid (R = false) := Lib.hid (by rw [HR.out]; unfold isD; rw [decide_eq_false hs2, Bool.and_false]; rfl)
    clear hs1 hs2
    go_upto_region 2 with fail
    refine wp_region_loosely 30 [some 12, some 13, some 14, some 15, some 16, some 17, some 18, some 19, some 20, some 21, some 22, some 23, some 24, some 25, some 26, some 27, some 28, some 29, some 30, some 31, some 32, some 33, some 34, some 35, some 36, some 37, some 38, some 39, some 40, some 41] [some (.pointer (some ⟨gr, 0, none⟩)), some (.bool false), some (.bool false), some (.pointer (some ⟨gr, 0, none⟩)), none, some (.pointer (some ⟨x, 0, none⟩)), some (.pointer (some ⟨x, 0, none⟩)), some (.pointer (some ⟨x, 2, none⟩)), some (.slice pu s.used.length cu), some (.bool true), some (.bool false), some (.bool false), some (.bool false), some (.pointer (some ⟨gr, 0, none⟩)), some (.int .i64 (n : Int)), some (.pointer (some ⟨x, 0, none⟩)), some (.pointer (some ⟨x, 0, none⟩)), some (.pointer (some ⟨x, 0, none⟩)), some (.slice ph n ch), some (.int .i64 (n : Int)), some (.bool false), some (.bool false), some (.bool false), some (.pointer (some ⟨g, 0, none⟩)), none, some (.pointer (some ⟨x, 0, none⟩)), none, some (.bool false), some (.bool true), some (.bool true)] (fun _ w' => Below w1.heap.size w1 w') (fun _ w w' => Below w.heap.size w w') (fun L i v w => (i = 4 → (fun _ v w => ∃ A c, v = .slice A (K.H).length c ∧ Ints w w.heap.size A (K.H)) L v w) ∧ (i = 24 → (fun _ v w => ∃ A c, v = .slice A (pendT K).length c ∧ Ints w w.heap.size A (pendT K)) L v w) ∧ (i = 26 → (fun _ v w => ∃ A c, v = .slice A (pendD s).length c ∧ Ints w w.heap.size A (pendD s)) L v w)) (by kernel_rfl) (by kernel_rfl) rfl (by kernel_rfl) (by kernel_rfl) ?hM (fun _ _ _ _ _ h g => h.trans (g.mono h.size)) (below_dn _ 1) ?hops ?hrest
    case hM =>
      intro L o i v w w' hne hLi hLo hcl h hj hg
      exact ⟨(fun e => by
        have hh := h.1 e
        subst e
        exact (match hh with | ⟨A, c, e, hi⟩ => ⟨A, c, e, (hi.below hg).more hg.size⟩)), (fun e => by
        have hh := h.2.1 e
        subst e
        exact (match hh with | ⟨A, c, e, hi⟩ => ⟨A, c, e, (hi.below hg).more hg.size⟩)), (fun e => by
        have hh := h.2.2 e
        subst e
        exact (match hh with | ⟨A, c, e, hi⟩ => ⟨A, c, e, (hi.below hg).more hg.size⟩))⟩
    case hops =>
      intro o ho L f x' w2 hcl hfr hLo hj hw
      rcases (show o = 0 ∨ o = 1 ∨ o = 2 ∨ o = 3 ∨ o = 4 ∨ o = 5 ∨ o = 6 ∨ o = 7 ∨ o = 8 ∨ o = 9 ∨ o = 10 ∨ o = 11 ∨ o = 12 ∨ o = 13 ∨ o = 14 ∨ o = 15 ∨ o = 16 ∨ o = 17 ∨ o = 18 ∨ o = 19 ∨ o = 20 ∨ o = 21 ∨ o = 22 ∨ o = 23 ∨ o = 24 ∨ o = 25 ∨ o = 26 ∨ o = 27 ∨ o = 28 ∨ o = 29 by omega) with rfl | rfl | rfl | rfl | rfl | rfl | rfl | rfl | rfl | rfl | rfl | rfl | rfl | rfl | rfl | rfl | rfl | rfl | rfl | rfl | rfl | rfl | rfl | rfl | rfl | rfl | rfl | rfl | rfl | rfl
      · have e1 : x'.tmps[5]?.getD undef = .pointer (some ⟨gr, 0, none⟩) := by rw [hfr 5 (slL_far (by kernel_rfl))]; rfl
        clear hw hfr hcl hLo
        refine wpOp_on (v := .pointer (some ⟨gr, 0, none⟩)) (w' := w2) rfl (wanted_none rfl) ?_ ⟨_, rfl, (Below.refl _ _), .known rfl ⟨(fun e => absurd e (by decide)), (fun e => absurd e (by decide)), (fun e => absurd e (by decide))⟩⟩
        go_simp
      · have e1 : x'.tmps[12]?.getD undef = .pointer (some ⟨gr, 0, none⟩) := (hw 0 (of_decide_eq_true (by kernel_rfl))).is rfl rfl
        clear hw hfr hcl hLo
        refine wpOp_on (v := .bool false) (w' := w2) rfl (wanted_none rfl) ?_ ⟨_, rfl, (Below.refl _ _), .known rfl ⟨(fun e => absurd e (by decide)), (fun e => absurd e (by decide)), (fun e => absurd e (by decide))⟩⟩
        go_simp
      · have e1 : x'.tmps[13]?.getD undef = .bool false := (hw 1 (of_decide_eq_true (by kernel_rfl))).is rfl rfl
        clear hw hfr hcl hLo
        refine wpOp_on (v := .bool false) (w' := w2) rfl (wanted_none rfl) ?_ ⟨_, rfl, (Below.refl _ _), .known rfl ⟨(fun e => absurd e (by decide)), (fun e => absurd e (by decide)), (fun e => absurd e (by decide))⟩⟩
        go_simp
      · have eg : x'.tmps[14]?.getD undef = .bool false := (hw 2 (of_decide_eq_true (by kernel_rfl))).is rfl rfl
        have e1 : x'.tmps[5]?.getD undef = .pointer (some ⟨gr, 0, none⟩) := by rw [hfr 5 (slL_far (by kernel_rfl))]; rfl
        clear hw hfr hcl hLo
        refine wpOp_on (v := .pointer (some ⟨gr, 0, none⟩)) (w' := w2) rfl (guard_is (b := false) rfl rfl eg) ?_ ⟨_, rfl, (Below.refl _ _), .known rfl ⟨(fun e => absurd e (by decide)), (fun e => absurd e (by decide)), (fun e => absurd e (by decide))⟩⟩
        go_simp
      · have eg : x'.tmps[14]?.getD undef = .bool false := (hw 2 (of_decide_eq_true (by kernel_rfl))).is rfl rfl
        have e1 : x'.tmps[15]?.getD undef = .pointer (some ⟨gr, 0, none⟩) := (hw 3 (of_decide_eq_true (by kernel_rfl))).is rfl rfl
        clear hw hfr hcl hLo
        refine wpOp_enter (f := 61) (args := #[.pointer (some ⟨gr, 0, none⟩)]) rfl (guard_is (b := false) rfl rfl eg) (by go_simp) ((HALL.out w2 hj).mono ?_)
        rintro e wy ⟨A, c, rfl, hrow, hb⟩
        exact ⟨_, rfl, _, rfl, hb, .loose rfl ⟨(fun _ => ⟨A, c, rfl, row_ints hrow⟩), (fun e => absurd e (by decide)), (fun e => absurd e (by decide))⟩⟩
      · have eg : x'.tmps[14]?.getD undef = .bool false := (hw 2 (of_decide_eq_true (by kernel_rfl))).is rfl rfl
        have e1 : x'.tmps[1]?.getD undef = .pointer (some ⟨x, 0, none⟩) := by rw [hfr 1 (slL_far (by kernel_rfl))]; rfl
        clear hw hfr hcl hLo
        refine wpOp_on (v := .pointer (some ⟨x, 0, none⟩)) (w' := w2) rfl (guard_is (b := false) rfl rfl eg) ?_ ⟨_, rfl, (Below.refl _ _), .known rfl ⟨(fun e => absurd e (by decide)), (fun e => absurd e (by decide)), (fun e => absurd e (by decide))⟩⟩
        go_simp
      · have eg : x'.tmps[14]?.getD undef = .bool false := (hw 2 (of_decide_eq_true (by kernel_rfl))).is rfl rfl
        have e1 : x'.tmps[17]?.getD undef = .pointer (some ⟨x, 0, none⟩) := (hw 5 (of_decide_eq_true (by kernel_rfl))).is rfl rfl
        clear hw hfr hcl hLo
        refine wpOp_on (v := .pointer (some ⟨x, 0, none⟩)) (w' := w2) rfl (guard_is (b := false) rfl rfl eg) ?_ ⟨_, rfl, (Below.refl _ _), .known rfl ⟨(fun e => absurd e (by decide)), (fun e => absurd e (by decide)), (fun e => absurd e (by decide))⟩⟩
        go_simp
      · have eg : x'.tmps[14]?.getD undef = .bool false := (hw 2 (of_decide_eq_true (by kernel_rfl))).is rfl rfl
        have e1 : x'.tmps[18]?.getD undef = .pointer (some ⟨x, 0, none⟩) := (hw 6 (of_decide_eq_true (by kernel_rfl))).is rfl rfl
        clear hw hfr hcl hLo
        refine wpOp_on (v := .pointer (some ⟨x, 2, none⟩)) (w' := w2) rfl (guard_is (b := false) rfl rfl eg) ?_ ⟨_, rfl, (Below.refl _ _), .known rfl ⟨(fun e => absurd e (by decide)), (fun e => absurd e (by decide)), (fun e => absurd e (by decide))⟩⟩
        go_simp
      · have eg : x'.tmps[14]?.getD undef = .bool false := (hw 2 (of_decide_eq_true (by kernel_rfl))).is rfl rfl
        have e1 : x'.tmps[19]?.getD undef = .pointer (some ⟨x, 2, none⟩) := (hw 7 (of_decide_eq_true (by kernel_rfl))).is rfl rfl
        obtain ⟨z0, z2⟩ := HC.out w2 hj
        clear hw hfr hcl hLo
        refine wpOp_on (v := .slice pu s.used.length cu) (w' := w2) rfl (guard_is (b := false) rfl rfl eg) ?_ ⟨_, rfl, (Below.refl _ _), .known rfl ⟨(fun e => absurd e (by decide)), (fun e => absurd e (by decide)), (fun e => absurd e (by decide))⟩⟩
        go_simp
      · have eg : x'.tmps[14]?.getD undef = .bool false := (hw 2 (of_decide_eq_true (by kernel_rfl))).is rfl rfl
        have e1 := (hw 4 (of_decide_eq_true (by kernel_rfl)))
        have e2 : x'.tmps[20]?.getD undef = .slice pu s.used.length cu := (hw 8 (of_decide_eq_true (by kernel_rfl))).is rfl rfl
        obtain ⟨A1, k1, ev1, hi1⟩ := e1.2.1.2.1 rfl
        have e1' : x'.tmps[16]?.getD undef = .slice A1 K.H.length k1 := (e1.2.2 16 rfl).trans ev1
        clear hw hfr hcl hLo
        refine wpOp_enter (f := 49) (args := #[.slice A1 K.H.length k1, .slice pu s.used.length cu]) rfl (guard_is (b := false) rfl rfl eg) (by go_simp) ((HS1.out w2 A1 k1 hj hi1).mono ?_)
        rintro e wy ⟨rfl, hb⟩
        exact ⟨_, rfl, _, rfl, hb, .known rfl ⟨(fun e => absurd e (by decide)), (fun e => absurd e (by decide)), (fun e => absurd e (by decide))⟩⟩
      · have eg : x'.tmps[14]?.getD undef = .bool false := (hw 2 (of_decide_eq_true (by kernel_rfl))).is rfl rfl
        have e1 : x'.tmps[21]?.getD undef = .bool true := (hw 9 (of_decide_eq_true (by kernel_rfl))).is rfl rfl
        clear hw hfr hcl hLo
        refine wpOp_on (v := .bool false) (w' := w2) rfl (guard_is (b := false) rfl rfl eg) ?_ ⟨_, rfl, (Below.refl _ _), .known rfl ⟨(fun e => absurd e (by decide)), (fun e => absurd e (by decide)), (fun e => absurd e (by decide))⟩⟩
        go_simp
      · have e1 : x'.tmps[14]?.getD undef = .bool false := (hw 2 (of_decide_eq_true (by kernel_rfl))).is rfl rfl
        have e2 : x'.tmps[22]?.getD undef = .bool false := (hw 10 (of_decide_eq_true (by kernel_rfl))).is rfl rfl
        clear hw hfr hcl hLo
        refine wpOp_on (v := .bool false) (w' := w2) rfl (wanted_none rfl) ?_ ⟨_, rfl, (Below.refl _ _), .known rfl ⟨(fun e => absurd e (by decide)), (fun e => absurd e (by decide)), (fun e => absurd e (by decide))⟩⟩
        go_simp
      · have e1 : x'.tmps[23]?.getD undef = .bool false := (hw 11 (of_decide_eq_true (by kernel_rfl))).is rfl rfl
        clear hw hfr hcl hLo
        refine wpOp_on (v := .bool false) (w' := w2) rfl (wanted_none rfl) ?_ ⟨_, rfl, (Below.refl _ _), .known rfl ⟨(fun e => absurd e (by decide)), (fun e => absurd e (by decide)), (fun e => absurd e (by decide))⟩⟩
        go_simp
      · have eg : x'.tmps[24]?.getD undef = .bool false := (hw 12 (of_decide_eq_true (by kernel_rfl))).is rfl rfl
        have e1 : x'.tmps[5]?.getD undef = .pointer (some ⟨gr, 0, none⟩) := by rw [hfr 5 (slL_far (by kernel_rfl))]; rfl
        clear hw hfr hcl hLo
        refine wpOp_on (v := .pointer (some ⟨gr, 0, none⟩)) (w' := w2) rfl (guard_is (b := false) rfl rfl eg) ?_ ⟨_, rfl, (Below.refl _ _), .known rfl ⟨(fun e => absurd e (by decide)), (fun e => absurd e (by decide)), (fun e => absurd e (by decide))⟩⟩
        go_simp
      · have eg : x'.tmps[24]?.getD undef = .bool false := (hw 12 (of_decide_eq_true (by kernel_rfl))).is rfl rfl
        have e1 : x'.tmps[25]?.getD undef = .pointer (some ⟨gr, 0, none⟩) := (hw 13 (of_decide_eq_true (by kernel_rfl))).is rfl rfl
        clear hw hfr hcl hLo
        refine wpOp_enter (f := 50) (args := #[.pointer (some ⟨gr, 0, none⟩)]) rfl (guard_is (b := false) rfl rfl eg) (by go_simp) ((HSZ.out w2 hj).mono ?_)
        rintro e wy ⟨rfl, rfl⟩
        exact ⟨_, rfl, _, rfl, (Below.refl _ _), .known rfl ⟨(fun e => absurd e (by decide)), (fun e => absurd e (by decide)), (fun e => absurd e (by decide))⟩⟩
      · have eg : x'.tmps[24]?.getD undef = .bool false := (hw 12 (of_decide_eq_true (by kernel_rfl))).is rfl rfl
        have e1 : x'.tmps[1]?.getD undef = .pointer (some ⟨x, 0, none⟩) := by rw [hfr 1 (slL_far (by kernel_rfl))]; rfl
        clear hw hfr hcl hLo
        refine wpOp_on (v := .pointer (some ⟨x, 0, none⟩)) (w' := w2) rfl (guard_is (b := false) rfl rfl eg) ?_ ⟨_, rfl, (Below.refl _ _), .known rfl ⟨(fun e => absurd e (by decide)), (fun e => absurd e (by decide)), (fun e => absurd e (by decide))⟩⟩
        go_simp
      · have eg : x'.tmps[24]?.getD undef = .bool false := (hw 12 (of_decide_eq_true (by kernel_rfl))).is rfl rfl
        have e1 : x'.tmps[27]?.getD undef = .pointer (some ⟨x, 0, none⟩) := (hw 15 (of_decide_eq_true (by kernel_rfl))).is rfl rfl
        clear hw hfr hcl hLo
        refine wpOp_on (v := .pointer (some ⟨x, 0, none⟩)) (w' := w2) rfl (guard_is (b := false) rfl rfl eg) ?_ ⟨_, rfl, (Below.refl _ _), .known rfl ⟨(fun e => absurd e (by decide)), (fun e => absurd e (by decide)), (fun e => absurd e (by decide))⟩⟩
        go_simp
      · have eg : x'.tmps[24]?.getD undef = .bool false := (hw 12 (of_decide_eq_true (by kernel_rfl))).is rfl rfl
        have e1 : x'.tmps[28]?.getD undef = .pointer (some ⟨x, 0, none⟩) := (hw 16 (of_decide_eq_true (by kernel_rfl))).is rfl rfl
        clear hw hfr hcl hLo
        refine wpOp_on (v := .pointer (some ⟨x, 0, none⟩)) (w' := w2) rfl (guard_is (b := false) rfl rfl eg) ?_ ⟨_, rfl, (Below.refl _ _), .known rfl ⟨(fun e => absurd e (by decide)), (fun e => absurd e (by decide)), (fun e => absurd e (by decide))⟩⟩
        go_simp
      · have eg : x'.tmps[24]?.getD undef = .bool false := (hw 12 (of_decide_eq_true (by kernel_rfl))).is rfl rfl
        have e1 : x'.tmps[29]?.getD undef = .pointer (some ⟨x, 0, none⟩) := (hw 17 (of_decide_eq_true (by kernel_rfl))).is rfl rfl
        obtain ⟨z0, z2⟩ := HC.out w2 hj
        clear hw hfr hcl hLo
        refine wpOp_on (v := .slice ph n ch) (w' := w2) rfl (guard_is (b := false) rfl rfl eg) ?_ ⟨_, rfl, (Below.refl _ _), .known rfl ⟨(fun e => absurd e (by decide)), (fun e => absurd e (by decide)), (fun e => absurd e (by decide))⟩⟩
        go_simp
      · have eg : x'.tmps[24]?.getD undef = .bool false := (hw 12 (of_decide_eq_true (by kernel_rfl))).is rfl rfl
        have e1 : x'.tmps[30]?.getD undef = .slice ph n ch := (hw 18 (of_decide_eq_true (by kernel_rfl))).is rfl rfl
        clear hw hfr hcl hLo
        refine wpOp_on (v := .int .i64 (n : Int)) (w' := w2) rfl (guard_is (b := false) rfl rfl eg) ?_ ⟨_, rfl, (Below.refl _ _), .known rfl ⟨(fun e => absurd e (by decide)), (fun e => absurd e (by decide)), (fun e => absurd e (by decide))⟩⟩
        go_simp
      · have eg : x'.tmps[24]?.getD undef = .bool false := (hw 12 (of_decide_eq_true (by kernel_rfl))).is rfl rfl
        have e1 : x'.tmps[26]?.getD undef = .int .i64 (n : Int) := (hw 14 (of_decide_eq_true (by kernel_rfl))).is rfl rfl
        have e2 : x'.tmps[31]?.getD undef = .int .i64 (n : Int) := (hw 19 (of_decide_eq_true (by kernel_rfl))).is rfl rfl
        clear hw hfr hcl hLo
        refine wpOp_on (v := .bool false) (w' := w2) rfl (guard_is (b := false) rfl rfl eg) ?_ ⟨_, rfl, (Below.refl _ _), .known rfl ⟨(fun e => absurd e (by decide)), (fun e => absurd e (by decide)), (fun e => absurd e (by decide))⟩⟩
        go_simp
      · have e1 : x'.tmps[24]?.getD undef = .bool false := (hw 12 (of_decide_eq_true (by kernel_rfl))).is rfl rfl
        have e2 : x'.tmps[32]?.getD undef = .bool false := (hw 20 (of_decide_eq_true (by kernel_rfl))).is rfl rfl
        clear hw hfr hcl hLo
        refine wpOp_on (v := .bool false) (w' := w2) rfl (wanted_none rfl) ?_ ⟨_, rfl, (Below.refl _ _), .known rfl ⟨(fun e => absurd e (by decide)), (fun e => absurd e (by decide)), (fun e => absurd e (by decide))⟩⟩
        go_simp
      · have e1 : x'.tmps[33]?.getD undef = .bool false := (hw 21 (of_decide_eq_true (by kernel_rfl))).is rfl rfl
        clear hw hfr hcl hLo
        refine wpOp_on (v := .bool false) (w' := w2) rfl (wanted_none rfl) ?_ ⟨_, rfl, (Below.refl _ _), .known rfl ⟨(fun e => absurd e (by decide)), (fun e => absurd e (by decide)), (fun e => absurd e (by decide))⟩⟩
        go_simp
      · have eg : x'.tmps[34]?.getD undef = .bool false := (hw 22 (of_decide_eq_true (by kernel_rfl))).is rfl rfl
        have e1 : x'.tmps[0]?.getD undef = .pointer (some ⟨g, 0, none⟩) := by rw [hfr 0 (slL_far (by kernel_rfl))]; rfl
        clear hw hfr hcl hLo
        refine wpOp_on (v := .pointer (some ⟨g, 0, none⟩)) (w' := w2) rfl (guard_is (b := false) rfl rfl eg) ?_ ⟨_, rfl, (Below.refl _ _), .known rfl ⟨(fun e => absurd e (by decide)), (fun e => absurd e (by decide)), (fun e => absurd e (by decide))⟩⟩
        go_simp
      · have eg : x'.tmps[34]?.getD undef = .bool false := (hw 22 (of_decide_eq_true (by kernel_rfl))).is rfl rfl
        have e1 : x'.tmps[35]?.getD undef = .pointer (some ⟨g, 0, none⟩) := (hw 23 (of_decide_eq_true (by kernel_rfl))).is rfl rfl
        clear hw hfr hcl hLo
        refine wpOp_enter (f := 34) (args := #[.pointer (some ⟨g, 0, none⟩)]) rfl (guard_is (b := false) rfl rfl eg) (by go_simp) ((HDT.out w2 hj).mono ?_)
        rintro e wy ⟨A, c, rfl, hrow, hb⟩
        exact ⟨_, rfl, _, rfl, hb, .loose rfl ⟨(fun e => absurd e (by decide)), (fun _ => ⟨A, c, rfl, row_ints hrow⟩), (fun e => absurd e (by decide))⟩⟩
      · have eg : x'.tmps[34]?.getD undef = .bool false := (hw 22 (of_decide_eq_true (by kernel_rfl))).is rfl rfl
        have e1 : x'.tmps[1]?.getD undef = .pointer (some ⟨x, 0, none⟩) := by rw [hfr 1 (slL_far (by kernel_rfl))]; rfl
        clear hw hfr hcl hLo
        refine wpOp_on (v := .pointer (some ⟨x, 0, none⟩)) (w' := w2) rfl (guard_is (b := false) rfl rfl eg) ?_ ⟨_, rfl, (Below.refl _ _), .known rfl ⟨(fun e => absurd e (by decide)), (fun e => absurd e (by decide)), (fun e => absurd e (by decide))⟩⟩
        go_simp
      · have eg : x'.tmps[34]?.getD undef = .bool false := (hw 22 (of_decide_eq_true (by kernel_rfl))).is rfl rfl
        have e1 : x'.tmps[37]?.getD undef = .pointer (some ⟨x, 0, none⟩) := (hw 25 (of_decide_eq_true (by kernel_rfl))).is rfl rfl
        clear hw hfr hcl hLo
        refine wpOp_enter (f := 24) (args := #[.pointer (some ⟨x, 0, none⟩)]) rfl (guard_is (b := false) rfl rfl eg) (by go_simp) ((HDD.out w2 hj).mono ?_)
        rintro e wy ⟨A, c, rfl, hrow, hb⟩
        exact ⟨_, rfl, _, rfl, hb, .loose rfl ⟨(fun e => absurd e (by decide)), (fun e => absurd e (by decide)), (fun _ => ⟨A, c, rfl, row_ints hrow⟩)⟩⟩
      · have eg : x'.tmps[34]?.getD undef = .bool false := (hw 22 (of_decide_eq_true (by kernel_rfl))).is rfl rfl
        have e1 := (hw 24 (of_decide_eq_true (by kernel_rfl)))
        have e2 := (hw 26 (of_decide_eq_true (by kernel_rfl)))
        obtain ⟨A1, k1, ev1, hi1⟩ := e1.2.1.2.2.1 rfl
        have e1' : x'.tmps[36]?.getD undef = .slice A1 (pendT K).length k1 := (e1.2.2 36 rfl).trans ev1
        obtain ⟨A2, k2, ev2, hi2⟩ := e2.2.1.2.2.2 rfl
        have e2' : x'.tmps[38]?.getD undef = .slice A2 (pendD s).length k2 := (e2.2.2 38 rfl).trans ev2
        clear hw hfr hcl hLo
        refine wpOp_enter (f := 49) (args := #[.slice A1 (pendT K).length k1, .slice A2 (pendD s).length k2]) rfl (guard_is (b := false) rfl rfl eg) (by go_simp) ((HS2.out w2 A1 k1 A2 k2 hj hi1 hi2).mono ?_)
        rintro e wy ⟨rfl, hb⟩
        exact ⟨_, rfl, _, rfl, hb, .known rfl ⟨(fun e => absurd e (by decide)), (fun e => absurd e (by decide)), (fun e => absurd e (by decide))⟩⟩
      · have eg : x'.tmps[34]?.getD undef = .bool false := (hw 22 (of_decide_eq_true (by kernel_rfl))).is rfl rfl
        have e1 : x'.tmps[39]?.getD undef = .bool false := (hw 27 (of_decide_eq_true (by kernel_rfl))).is rfl rfl
        clear hw hfr hcl hLo
        refine wpOp_on (v := .bool true) (w' := w2) rfl (guard_is (b := false) rfl rfl eg) ?_ ⟨_, rfl, (Below.refl _ _), .known rfl ⟨(fun e => absurd e (by decide)), (fun e => absurd e (by decide)), (fun e => absurd e (by decide))⟩⟩
        go_simp
      · have e1 : x'.tmps[34]?.getD undef = .bool false := (hw 22 (of_decide_eq_true (by kernel_rfl))).is rfl rfl
        have e2 : x'.tmps[40]?.getD undef = .bool true := (hw 28 (of_decide_eq_true (by kernel_rfl))).is rfl rfl
        clear hw hfr hcl hLo
        refine wpOp_on (v := .bool true) (w' := w2) rfl (wanted_none rfl) ?_ ⟨_, rfl, (Below.refl _ _), .known rfl ⟨(fun e => absurd e (by decide)), (fun e => absurd e (by decide)), (fun e => absurd e (by decide))⟩⟩
        go_simp
    case hrest =>
      intro L f wz hL hj hF
      have f29 : f 29 = .bool true := (hF 29 (by omega)).is rfl
      clear hF hL
      simp only [putSlots, slL, List.range, List.range.loop, List.foldl, List.getElem?_cons_zero, List.getElem?_cons_succ, Option.getD_some, List.setIfInBounds_toArray, List.set_cons_succ, List.set_cons_zero, f29]
      clear f29
      have HJ := Lib.hid hj
      clear hj
      go_wp2_with fail
      go_ret
      exact ⟨by rw [HE.out]; rfl, HB1.out.trans (HJ.out.mono HB1.out.size)⟩
  have HS2 := Lib.hid (HDS.out true (decide_eq_true hs2))
  have HE : Hid (R = decide (∀ i, i < n → (getR K (i : Int)).1 = wantD s i)) := Lib.hid (by rw [HR.out]; unfold isD; rw [decide_eq_true hs1, decide_eq_true hs2]; rfl)
  clear hs1 hs2
  go_upto_region 2 with fail
  refine wp_region_loosely 30 [some 12, some 13, some 14, some 15, some 16, some 17, some 18, some 19, some 20, some 21, some 22, some 23, some 24, some 25, some 26, some 27, some 28, some 29, some 30, some 31, some 32, some 33, some 34, some 35, some 36, some 37, some 38, some 39, some 40, some 41] [some (.pointer (some ⟨gr, 0, none⟩)), some (.bool false), some (.bool false), some (.pointer (some ⟨gr, 0, none⟩)), none, some (.pointer (some ⟨x, 0, none⟩)), some (.pointer (some ⟨x, 0, none⟩)), some (.pointer (some ⟨x, 2, none⟩)), some (.slice pu s.used.length cu), some (.bool true), some (.bool false), some (.bool false), some (.bool false), some (.pointer (some ⟨gr, 0, none⟩)), some (.int .i64 (n : Int)), some (.pointer (some ⟨x, 0, none⟩)), some (.pointer (some ⟨x, 0, none⟩)), some (.pointer (some ⟨x, 0, none⟩)), some (.slice ph n ch), some (.int .i64 (n : Int)), some (.bool false), some (.bool false), some (.bool false), some (.pointer (some ⟨g, 0, none⟩)), none, some (.pointer (some ⟨x, 0, none⟩)), none, some (.bool true), some (.bool false), some (.bool false)] (fun _ w' => Below w1.heap.size w1 w') (fun _ w w' => Below w.heap.size w w') (fun L i v w => (i = 4 → (fun _ v w => ∃ A c, v = .slice A (K.H).length c ∧ Ints w w.heap.size A (K.H)) L v w) ∧ (i = 24 → (fun _ v w => ∃ A c, v = .slice A (pendT K).length c ∧ Ints w w.heap.size A (pendT K)) L v w) ∧ (i = 26 → (fun _ v w => ∃ A c, v = .slice A (pendD s).length c ∧ Ints w w.heap.size A (pendD s)) L v w)) (by kernel_rfl) (by kernel_rfl) rfl (by kernel_rfl) (by kernel_rfl) ?hM (fun _ _ _ _ _ h g => h.trans (g.mono h.size)) (below_dn _ 1) ?hops ?hrest
  case hM =>
    intro L o i v w w' hne hLi hLo hcl h hj hg
    exact ⟨(fun e => by
      have hh := h.1 e
      subst e
      exact (match hh with | ⟨A, c, e, hi⟩ => ⟨A, c, e, (hi.below hg).more hg.size⟩)), (fun e => by
      have hh := h.2.1 e
      subst e
      exact (match hh with | ⟨A, c, e, hi⟩ => ⟨A, c, e, (hi.below hg).more hg.size⟩)), (fun e => by
      have hh := h.2.2 e
      subst e
      exact (match hh with | ⟨A, c, e, hi⟩ => ⟨A, c, e, (hi.below hg).more hg.size⟩))⟩
  case hops =>
    intro o ho L f x' w2 hcl hfr hLo hj hw
    rcases (show o = 0 ∨ o = 1 ∨ o = 2 ∨ o = 3 ∨ o = 4 ∨ o = 5 ∨ o = 6 ∨ o = 7 ∨ o = 8 ∨ o = 9 ∨ o = 10 ∨ o = 11 ∨ o = 12 ∨ o = 13 ∨ o = 14 ∨ o = 15 ∨ o = 16 ∨ o = 17 ∨ o = 18 ∨ o = 19 ∨ o = 20 ∨ o = 21 ∨ o = 22 ∨ o = 23 ∨ o = 24 ∨ o = 25 ∨ o = 26 ∨ o = 27 ∨ o = 28 ∨ o = 29 by omega) with rfl | rfl | rfl | rfl | rfl | rfl | rfl | rfl | rfl | rfl | rfl | rfl | rfl | rfl | rfl | rfl | rfl | rfl | rfl | rfl | rfl | rfl | rfl | rfl | rfl | rfl | rfl | rfl | rfl | rfl
    · have e1 : x'.tmps[5]?.getD undef = .pointer (some ⟨gr, 0, none⟩) := by rw [hfr 5 (slL_far (by kernel_rfl))]; rfl
      clear hw hfr hcl hLo
      refine wpOp_on (v := .pointer (some ⟨gr, 0, none⟩)) (w' := w2) rfl (wanted_none rfl) ?_ ⟨_, rfl, (Below.refl _ _), .known rfl ⟨(fun e => absurd e (by decide)), (fun e => absurd e (by decide)), (fun e => absurd e (by decide))⟩⟩
      go_simp
    · have e1 : x'.tmps[12]?.getD undef = .pointer (some ⟨gr, 0, none⟩) := (hw 0 (of_decide_eq_true (by kernel_rfl))).is rfl rfl
      clear hw hfr hcl hLo
      refine wpOp_on (v := .bool false) (w' := w2) rfl (wanted_none rfl) ?_ ⟨_, rfl, (Below.refl _ _), .known rfl ⟨(fun e => absurd e (by decide)), (fun e => absurd e (by decide)), (fun e => absurd e (by decide))⟩⟩
      go_simp
    · have e1 : x'.tmps[13]?.getD undef = .bool false := (hw 1 (of_decide_eq_true (by kernel_rfl))).is rfl rfl
      clear hw hfr hcl hLo
      refine wpOp_on (v := .bool false) (w' := w2) rfl (wanted_none rfl) ?_ ⟨_, rfl, (Below.refl _ _), .known rfl ⟨(fun e => absurd e (by decide)), (fun e => absurd e (by decide)), (fun e => absurd e (by decide))⟩⟩
      go_simp
    · have eg : x'.tmps[14]?.getD undef = .bool false := (hw 2 (of_decide_eq_true (by kernel_rfl))).is rfl rfl
      have e1 : x'.tmps[5]?.getD undef = .pointer (some ⟨gr, 0, none⟩) := by rw [hfr 5 (slL_far (by kernel_rfl))]; rfl
      clear hw hfr hcl hLo
      refine wpOp_on (v := .pointer (some ⟨gr, 0, none⟩)) (w' := w2) rfl (guard_is (b := false) rfl rfl eg) ?_ ⟨_, rfl, (Below.refl _ _), .known rfl ⟨(fun e => absurd e (by decide)), (fun e => absurd e (by decide)), (fun e => absurd e (by decide))⟩⟩
      go_simp
    · have eg : x'.tmps[14]?.getD undef = .bool false := (hw 2 (of_decide_eq_true (by kernel_rfl))).is rfl rfl
      have e1 : x'.tmps[15]?.getD undef = .pointer (some ⟨gr, 0, none⟩) := (hw 3 (of_decide_eq_true (by kernel_rfl))).is rfl rfl
      clear hw hfr hcl hLo
      refine wpOp_enter (f := 61) (args := #[.pointer (some ⟨gr, 0, none⟩)]) rfl (guard_is (b := false) rfl rfl eg) (by go_simp) ((HALL.out w2 hj).mono ?_)
      rintro e wy ⟨A, c, rfl, hrow, hb⟩
      exact ⟨_, rfl, _, rfl, hb, .loose rfl ⟨(fun _ => ⟨A, c, rfl, row_ints hrow⟩), (fun e => absurd e (by decide)), (fun e => absurd e (by decide))⟩⟩
    · have eg : x'.tmps[14]?.getD undef = .bool false := (hw 2 (of_decide_eq_true (by kernel_rfl))).is rfl rfl
      have e1 : x'.tmps[1]?.getD undef = .pointer (some ⟨x, 0, none⟩) := by rw [hfr 1 (slL_far (by kernel_rfl))]; rfl
      clear hw hfr hcl hLo
      refine wpOp_on (v := .pointer (some ⟨x, 0, none⟩)) (w' := w2) rfl (guard_is (b := false) rfl rfl eg) ?_ ⟨_, rfl, (Below.refl _ _), .known rfl ⟨(fun e => absurd e (by decide)), (fun e => absurd e (by decide)), (fun e => absurd e (by decide))⟩⟩
      go_simp
    · have eg : x'.tmps[14]?.getD undef = .bool false := (hw 2 (of_decide_eq_true (by kernel_rfl))).is rfl rfl
      have e1 : x'.tmps[17]?.getD undef = .pointer (some ⟨x, 0, none⟩) := (hw 5 (of_decide_eq_true (by kernel_rfl))).is rfl rfl
      clear hw hfr hcl hLo
      refine wpOp_on (v := .pointer (some ⟨x, 0, none⟩)) (w' := w2) rfl (guard_is (b := false) rfl rfl eg) ?_ ⟨_, rfl, (Below.refl _ _), .known rfl ⟨(fun e => absurd e (by decide)), (fun e => absurd e (by decide)), (fun e => absurd e (by decide))⟩⟩
      go_simp
    · have eg : x'.tmps[14]?.getD undef = .bool false := (hw 2 (of_decide_eq_true (by kernel_rfl))).is rfl rfl
      have e1 : x'.tmps[18]?.getD undef = .pointer (some ⟨x, 0, none⟩) := (hw 6 (of_decide_eq_true (by kernel_rfl))).is rfl rfl
      clear hw hfr hcl hLo
      refine wpOp_on (v := .pointer (some ⟨x, 2, none⟩)) (w' := w2) rfl (guard_is (b := false) rfl rfl eg) ?_ ⟨_, rfl, (Below.refl _ _), .known rfl ⟨(fun e => absurd e (by decide)), (fun e => absurd e (by decide)), (fun e => absurd e (by decide))⟩⟩
      go_simp
    · have eg : x'.tmps[14]?.getD undef = .bool false := (hw 2 (of_decide_eq_true (by kernel_rfl))).is rfl rfl
      have e1 : x'.tmps[19]?.getD undef = .pointer (some ⟨x, 2, none⟩) := (hw 7 (of_decide_eq_true (by kernel_rfl))).is rfl rfl
      obtain ⟨z0, z2⟩ := HC.out w2 hj
      clear hw hfr hcl hLo
      refine wpOp_on (v := .slice pu s.used.length cu) (w' := w2) rfl (guard_is (b := false) rfl rfl eg) ?_ ⟨_, rfl, (Below.refl _ _), .known rfl ⟨(fun e => absurd e (by decide)), (fun e => absurd e (by decide)), (fun e => absurd e (by decide))⟩⟩
      go_simp
    · have eg : x'.tmps[14]?.getD undef = .bool false := (hw 2 (of_decide_eq_true (by kernel_rfl))).is rfl rfl
      have e1 := (hw 4 (of_decide_eq_true (by kernel_rfl)))
      have e2 : x'.tmps[20]?.getD undef = .slice pu s.used.length cu := (hw 8 (of_decide_eq_true (by kernel_rfl))).is rfl rfl
      obtain ⟨A1, k1, ev1, hi1⟩ := e1.2.1.2.1 rfl
      have e1' : x'.tmps[16]?.getD undef = .slice A1 K.H.length k1 := (e1.2.2 16 rfl).trans ev1
      clear hw hfr hcl hLo
      refine wpOp_enter (f := 49) (args := #[.slice A1 K.H.length k1, .slice pu s.used.length cu]) rfl (guard_is (b := false) rfl rfl eg) (by go_simp) ((HS1.out w2 A1 k1 hj hi1).mono ?_)
      rintro e wy ⟨rfl, hb⟩
      exact ⟨_, rfl, _, rfl, hb, .known rfl ⟨(fun e => absurd e (by decide)), (fun e => absurd e (by decide)), (fun e => absurd e (by decide))⟩⟩
    · have eg : x'.tmps[14]?.getD undef = .bool false := (hw 2 (of_decide_eq_true (by kernel_rfl))).is rfl rfl
      have e1 : x'.tmps[21]?.getD undef = .bool true := (hw 9 (of_decide_eq_true (by kernel_rfl))).is rfl rfl
      clear hw hfr hcl hLo
      refine wpOp_on (v := .bool false) (w' := w2) rfl (guard_is (b := false) rfl rfl eg) ?_ ⟨_, rfl, (Below.refl _ _), .known rfl ⟨(fun e => absurd e (by decide)), (fun e => absurd e (by decide)), (fun e => absurd e (by decide))⟩⟩
      go_simp
    · have e1 : x'.tmps[14]?.getD undef = .bool false := (hw 2 (of_decide_eq_true (by kernel_rfl))).is rfl rfl
      have e2 : x'.tmps[22]?.getD undef = .bool false := (hw 10 (of_decide_eq_true (by kernel_rfl))).is rfl rfl
      clear hw hfr hcl hLo
      refine wpOp_on (v := .bool false) (w' := w2) rfl (wanted_none rfl) ?_ ⟨_, rfl, (Below.refl _ _), .known rfl ⟨(fun e => absurd e (by decide)), (fun e => absurd e (by decide)), (fun e => absurd e (by decide))⟩⟩
      go_simp
    · have e1 : x'.tmps[23]?.getD undef = .bool false := (hw 11 (of_decide_eq_true (by kernel_rfl))).is rfl rfl
      clear hw hfr hcl hLo
      refine wpOp_on (v := .bool false) (w' := w2) rfl (wanted_none rfl) ?_ ⟨_, rfl, (Below.refl _ _), .known rfl ⟨(fun e => absurd e (by decide)), (fun e => absurd e (by decide)), (fun e => absurd e (by decide))⟩⟩
      go_simp
    · have eg : x'.tmps[24]?.getD undef = .bool false := (hw 12 (of_decide_eq_true (by kernel_rfl))).is rfl rfl
      have e1 : x'.tmps[5]?.getD undef = .pointer (some ⟨gr, 0, none⟩) := by rw [hfr 5 (slL_far (by kernel_rfl))]; rfl
      clear hw hfr hcl hLo
      refine wpOp_on (v := .pointer (some ⟨gr, 0, none⟩)) (w' := w2) rfl (guard_is (b := false) rfl rfl eg) ?_ ⟨_, rfl, (Below.refl _ _), .known rfl ⟨(fun e => absurd e (by decide)), (fun e => absurd e (by decide)), (fun e => absurd e (by decide))⟩⟩
      go_simp
    · have eg : x'.tmps[24]?.getD undef = .bool false := (hw 12 (of_decide_eq_true (by kernel_rfl))).is rfl rfl
      have e1 : x'.tmps[25]?.getD undef = .pointer (some ⟨gr, 0, none⟩) := (hw 13 (of_decide_eq_true (by kernel_rfl))).is rfl rfl
      clear hw hfr hcl hLo
      refine wpOp_enter (f := 50) (args := #[.pointer (some ⟨gr, 0, none⟩)]) rfl (guard_is (b := false) rfl rfl eg) (by go_simp) ((HSZ.out w2 hj).mono ?_)
      rintro e wy ⟨rfl, rfl⟩
      exact ⟨_, rfl, _, rfl, (Below.refl _ _), .known rfl ⟨(fun e => absurd e (by decide)), (fun e => absurd e (by decide)), (fun e => absurd e (by decide))⟩⟩
    · have eg : x'.tmps[24]?.getD undef = .bool false := (hw 12 (of_decide_eq_true (by kernel_rfl))).is rfl rfl
      have e1 : x'.tmps[1]?.getD undef = .pointer (some ⟨x, 0, none⟩) := by rw [hfr 1 (slL_far (by kernel_rfl))]; rfl
      clear hw hfr hcl hLo
      refine wpOp_on (v := .pointer (some ⟨x, 0, none⟩)) (w' := w2) rfl (guard_is (b := false) rfl rfl eg) ?_ ⟨_, rfl, (Below.refl _ _), .known rfl ⟨(fun e => absurd e (by decide)), (fun e => absurd e (by decide)), (fun e => absurd e (by decide))⟩⟩
      go_simp
    · have eg : x'.tmps[24]?.getD undef = .bool false := (hw 12 (of_decide_eq_true (by kernel_rfl))).is rfl rfl
      have e1 : x'.tmps[27]?.getD undef = .pointer (some ⟨x, 0, none⟩) := (hw 15 (of_decide_eq_true (by kernel_rfl))).is rfl rfl
      clear hw hfr hcl hLo
      refine wpOp_on (v := .pointer (some ⟨x, 0, none⟩)) (w' := w2) rfl (guard_is (b := false) rfl rfl eg) ?_ ⟨_, rfl, (Below.refl _ _), .known rfl ⟨(fun e => absurd e (by decide)), (fun e => absurd e (by decide)), (fun e => absurd e (by decide))⟩⟩
      go_simp
    · have eg : x'.tmps[24]?.getD undef = .bool false := (hw 12 (of_decide_eq_true (by kernel_rfl))).is rfl rfl
      have e1 : x'.tmps[28]?.getD undef = .pointer (some ⟨x, 0, none⟩) := (hw 16 (of_decide_eq_true (by kernel_rfl))).is rfl rfl
      clear hw hfr hcl hLo
      refine wpOp_on (v := .pointer (some ⟨x, 0, none⟩)) (w' := w2) rfl (guard_is (b := false) rfl rfl eg) ?_ ⟨_, rfl, (Below.refl _ _), .known rfl ⟨(fun e => absurd e (by decide)), (fun e => absurd e (by decide)), (fun e => absurd e (by decide))⟩⟩
      go_simp
    · have eg : x'.tmps[24]?.getD undef = .bool false := (hw 12 (of_decide_eq_true (by kernel_rfl))).is rfl rfl
      have e1 : x'.tmps[29]?.getD undef = .pointer (some ⟨x, 0, none⟩) := (hw 17 (of_decide_eq_true (by kernel_rfl))).is rfl rfl
      obtain ⟨z0, z2⟩ := HC.out w2 hj
      clear hw hfr hcl hLo
      refine wpOp_on (v := .slice ph n ch) (w' := w2) rfl (guard_is (b := false) rfl rfl eg) ?_ ⟨_, rfl, (Below.refl _ _), .known rfl ⟨(fun e => absurd e (by decide)), (fun e => absurd e (by decide)), (fun e => absurd e (by decide))⟩⟩
      go_simp
    · have eg : x'.tmps[24]?.getD undef = .bool false := (hw 12 (of_decide_eq_true (by kernel_rfl))).is rfl rfl
      have e1 : x'.tmps[30]?.getD undef = .slice ph n ch := (hw 18 (of_decide_eq_true (by kernel_rfl))).is rfl rfl
      clear hw hfr hcl hLo
      refine wpOp_on (v := .int .i64 (n : Int)) (w' := w2) rfl (guard_is (b := false) rfl rfl eg) ?_ ⟨_, rfl, (Below.refl _ _), .known rfl ⟨(fun e => absurd e (by decide)), (fun e => absurd e (by decide)), (fun e => absurd e (by decide))⟩⟩
      go_simp
    · have eg : x'.tmps[24]?.getD undef = .bool false := (hw 12 (of_decide_eq_true (by kernel_rfl))).is rfl rfl
      have e1 : x'.tmps[26]?.getD undef = .int .i64 (n : Int) := (hw 14 (of_decide_eq_true (by kernel_rfl))).is rfl rfl
      have e2 : x'.tmps[31]?.getD undef = .int .i64 (n : Int) := (hw 19 (of_decide_eq_true (by kernel_rfl))).is rfl rfl
      clear hw hfr hcl hLo
      refine wpOp_on (v := .bool false) (w' := w2) rfl (guard_is (b := false) rfl rfl eg) ?_ ⟨_, rfl, (Below.refl _ _), .known rfl ⟨(fun e => absurd e (by decide)), (fun e => absurd e (by decide)), (fun e => absurd e (by decide))⟩⟩
      go_simp
    · have e1 : x'.tmps[24]?.getD undef = .bool false := (hw 12 (of_decide_eq_true (by kernel_rfl))).is rfl rfl
      have e2 : x'.tmps[32]?.getD undef = .bool false := (hw 20 (of_decide_eq_true (by kernel_rfl))).is rfl rfl
      clear hw hfr hcl hLo
      refine wpOp_on (v := .bool false) (w' := w2) rfl (wanted_none rfl) ?_ ⟨_, rfl, (Below.refl _ _), .known rfl ⟨(fun e => absurd e (by decide)), (fun e => absurd e (by decide)), (fun e => absurd e (by decide))⟩⟩
      go_simp
    · have e1 : x'.tmps[33]?.getD undef = .bool false := (hw 21 (of_decide_eq_true (by kernel_rfl))).is rfl rfl
      clear hw hfr hcl hLo
      refine wpOp_on (v := .bool false) (w' := w2) rfl (wanted_none rfl) ?_ ⟨_, rfl, (Below.refl _ _), .known rfl ⟨(fun e => absurd e (by decide)), (fun e => absurd e (by decide)), (fun e => absurd e (by decide))⟩⟩
      go_simp
    · have eg : x'.tmps[34]?.getD undef = .bool false := (hw 22 (of_decide_eq_true (by kernel_rfl))).is rfl rfl
      have e1 : x'.tmps[0]?.getD undef = .pointer (some ⟨g, 0, none⟩) := by rw [hfr 0 (slL_far (by kernel_rfl))]; rfl
      clear hw hfr hcl hLo
      refine wpOp_on (v := .pointer (some ⟨g, 0, none⟩)) (w' := w2) rfl (guard_is (b := false) rfl rfl eg) ?_ ⟨_, rfl, (Below.refl _ _), .known rfl ⟨(fun e => absurd e (by decide)), (fun e => absurd e (by decide)), (fun e => absurd e (by decide))⟩⟩
      go_simp
    · have eg : x'.tmps[34]?.getD undef = .bool false := (hw 22 (of_decide_eq_true (by kernel_rfl))).is rfl rfl
      have e1 : x'.tmps[35]?.getD undef = .pointer (some ⟨g, 0, none⟩) := (hw 23 (of_decide_eq_true (by kernel_rfl))).is rfl rfl
      clear hw hfr hcl hLo
      refine wpOp_enter (f := 34) (args := #[.pointer (some ⟨g, 0, none⟩)]) rfl (guard_is (b := false) rfl rfl eg) (by go_simp) ((HDT.out w2 hj).mono ?_)
      rintro e wy ⟨A, c, rfl, hrow, hb⟩
      exact ⟨_, rfl, _, rfl, hb, .loose rfl ⟨(fun e => absurd e (by decide)), (fun _ => ⟨A, c, rfl, row_ints hrow⟩), (fun e => absurd e (by decide))⟩⟩
    · have eg : x'.tmps[34]?.getD undef = .bool false := (hw 22 (of_decide_eq_true (by kernel_rfl))).is rfl rfl
      have e1 : x'.tmps[1]?.getD undef = .pointer (some ⟨x, 0, none⟩) := by rw [hfr 1 (slL_far (by kernel_rfl))]; rfl
      clear hw hfr hcl hLo
      refine wpOp_on (v := .pointer (some ⟨x, 0, none⟩)) (w' := w2) rfl (guard_is (b := false) rfl rfl eg) ?_ ⟨_, rfl, (Below.refl _ _), .known rfl ⟨(fun e => absurd e (by decide)), (fun e => absurd e (by decide)), (fun e => absurd e (by decide))⟩⟩
      go_simp
    · have eg : x'.tmps[34]?.getD undef = .bool false := (hw 22 (of_decide_eq_true (by kernel_rfl))).is rfl rfl
      have e1 : x'.tmps[37]?.getD undef = .pointer (some ⟨x, 0, none⟩) := (hw 25 (of_decide_eq_true (by kernel_rfl))).is rfl rfl
      clear hw hfr hcl hLo
      refine wpOp_enter (f := 24) (args := #[.pointer (some ⟨x, 0, none⟩)]) rfl (guard_is (b := false) rfl rfl eg) (by go_simp) ((HDD.out w2 hj).mono ?_)
      rintro e wy ⟨A, c, rfl, hrow, hb⟩
      exact ⟨_, rfl, _, rfl, hb, .loose rfl ⟨(fun e => absurd e (by decide)), (fun e => absurd e (by decide)), (fun _ => ⟨A, c, rfl, row_ints hrow⟩)⟩⟩
    · have eg : x'.tmps[34]?.getD undef = .bool false := (hw 22 (of_decide_eq_true (by kernel_rfl))).is rfl rfl
      have e1 := (hw 24 (of_decide_eq_true (by kernel_rfl)))
      have e2 := (hw 26 (of_decide_eq_true (by kernel_rfl)))
      obtain ⟨A1, k1, ev1, hi1⟩ := e1.2.1.2.2.1 rfl
      have e1' : x'.tmps[36]?.getD undef = .slice A1 (pendT K).length k1 := (e1.2.2 36 rfl).trans ev1
      obtain ⟨A2, k2, ev2, hi2⟩ := e2.2.1.2.2.2 rfl
      have e2' : x'.tmps[38]?.getD undef = .slice A2 (pendD s).length k2 := (e2.2.2 38 rfl).trans ev2
      clear hw hfr hcl hLo
      refine wpOp_enter (f := 49) (args := #[.slice A1 (pendT K).length k1, .slice A2 (pendD s).length k2]) rfl (guard_is (b := false) rfl rfl eg) (by go_simp) ((HS2.out w2 A1 k1 A2 k2 hj hi1 hi2).mono ?_)
      rintro e wy ⟨rfl, hb⟩
      exact ⟨_, rfl, _, rfl, hb, .known rfl ⟨(fun e => absurd e (by decide)), (fun e => absurd e (by decide)), (fun e => absurd e (by decide))⟩⟩
    · have eg : x'.tmps[34]?.getD undef = .bool false := (hw 22 (of_decide_eq_true (by kernel_rfl))).is rfl rfl
      have e1 : x'.tmps[39]?.getD undef = .bool true := (hw 27 (of_decide_eq_true (by kernel_rfl))).is rfl rfl
      clear hw hfr hcl hLo
      refine wpOp_on (v := .bool false) (w' := w2) rfl (guard_is (b := false) rfl rfl eg) ?_ ⟨_, rfl, (Below.refl _ _), .known rfl ⟨(fun e => absurd e (by decide)), (fun e => absurd e (by decide)), (fun e => absurd e (by decide))⟩⟩
      go_simp
    · have e1 : x'.tmps[34]?.getD undef = .bool false := (hw 22 (of_decide_eq_true (by kernel_rfl))).is rfl rfl
      have e2 : x'.tmps[40]?.getD undef = .bool false := (hw 28 (of_decide_eq_true (by kernel_rfl))).is rfl rfl
      clear hw hfr hcl hLo
      refine wpOp_on (v := .bool false) (w' := w2) rfl (wanted_none rfl) ?_ ⟨_, rfl, (Below.refl _ _), .known rfl ⟨(fun e => absurd e (by decide)), (fun e => absurd e (by decide)), (fun e => absurd e (by decide))⟩⟩
      go_simp
  case hrest =>
    intro L f wz hL hj hF
    have f29 : f 29 = .bool false := (hF 29 (by omega)).is rfl
    clear hF hL
    simp only [putSlots, slL, List.range, List.range.loop, List.foldl, List.getElem?_cons_zero, List.getElem?_cons_succ, Option.getD_some, List.setIfInBounds_toArray, List.set_cons_succ, List.set_cons_zero, f29]
    clear f29
    have HJ := Lib.hid hj
    clear hj
    have HWZ : Hid (Below w.heap.size w wz) := Lib.hid (HB1.out.trans (HJ.out.mono HB1.out.size))
    go_wp2_with fail
    go_loopw [6, 7, 8, 9] (fun i u1 u2 u3 wr => ∃ j : Nat, j ≤ n ∧ i = .int .i64 j ∧ (∀ q, q < j → (getR K (q : Int)).1 = wantD s q) ∧ Below w.heap.size w wr) (fun i _ _ _ _ => n - (intOf i).toNat)
    case atStart => exact ⟨0, Nat.zero_le _, rfl, (fun q h => by omega), HWZ.out⟩
    case round =>
      obtain ⟨j, hj, rfl, hall, hbr⟩ := hrel
      have HA := Lib.hid hall
      have HBR := Lib.hid hbr
      have hdr := HDI.out.below hbr
      have c0 := hdr.blk.cell 0
      have c1 := hdr.blk.cell 1
      simp at c0 c1
      clear hall hbr hdr
      by_cases hlt : j < n
      · have HG : Hid (∀ w', Below w.heap.size w w' → Calls Tryz.prog 33 #[.pointer (some ⟨g, 0, none⟩), .int .i64 (j : Int)] w' fun e w'' => e = .returned (.tuple #[.string (getR K (j : Int)).1, .int .i64 0]) ∧ Below w'.heap.size w' w'') := Lib.hid (fun w' hb => by
          have := HOK.out.len
          have := HOK.out.dim
          have h := kget_any (j : Int) (HK.out.below hb) hb0 hup (by omega) (by omega) HZ.out (HFF.out _) ⟨by omega, by omega⟩
          rw [HGET.out j hlt] at h
          exact h)
        obtain ⟨G, hG⟩ : ∃ G, G = (getR K (j : Int)).1 := ⟨_, rfl⟩
        rw [← hG] at HG
        have HGG := Lib.hid hG
        clear hG
        go_wp2_with fail
        refine (HG.out _ HBR.out).mono ?_
        rintro e w3 ⟨rfl, hb3⟩
        have HB3 := Lib.hid (HBR.out.trans (hb3.mono HBR.out.size))
        have hd3 := HDI.out.below HB3.out
        have k0 := hd3.blk.cell 0
        have k1 := hd3.blk.cell 1
        simp at k0 k1
        have hh3 := hd3.home
        have ho3 := hd3.on
        rw [HHH.out] at hh3
        rw [HOO.out] at ho3
        obtain ⟨gh, rfl, -, -, hch⟩ := txt_cell hh3 (by omega)
        obtain ⟨go, rfl, -, -, hco⟩ := txt_cell ho3 (by omega)
        obtain ⟨bh, hbh⟩ : ∃ b, s.home[j]? = some b := ⟨s.home[j]'(by rw [HHH.out]; exact hlt), List.getElem?_eq_getElem _⟩
        obtain ⟨bo, hbo⟩ : ∃ b, s.on[j]? = some b := ⟨s.on[j]'(by rw [HOO.out]; exact hlt), List.getElem?_eq_getElem _⟩
        have q1 := hch j bh hbh
        have q2 := hco j bo hbo
        have hjI : (j : Int) < (n : Int) := by omega
        have hwant : wantD s j = if bo ≠ .empty then bo else bh := by
          unfold wantD
          rw [List.getD_eq_getElem?_getD, hbo, List.getD_eq_getElem?_getD, hbh]
          rfl
        have HW := Lib.hid hwant
        clear c0 c1 hb3 hd3 hh3 ho3 hch hco hbh hbo hwant
        obtain ⟨X, hX⟩ : ∃ X, X = wantD s j := ⟨_, rfl⟩
        have HNX : Hid (G = X → ∀ q, q < j + 1 → (getR K (q : Int)).1 = wantD s q) := Lib.hid (fun e q hq => by
          rcases Nat.lt_or_ge q j with h | h
          · exact HA.out q h
          · obtain rfl : q = j := by omega
            rw [← HGG.out, e, hX])
        have HNO : Hid (G ≠ X → R = false) := Lib.hid (fun e => by
          rw [HE.out]
          exact decide_eq_false fun h => e (by rw [hX, HGG.out]; exact h j hlt))
        rw [HW.out] at hX
        by_cases hbo : bo = .empty
        · subst hbo
          rw [if_neg (by simp)] at hX
          subst hX
          by_cases hgx : G = X
          · subst hgx
            have HN := Lib.hid (HNX.out rfl)
            have hself : (G.toList == G.toList) = true := by simp
            clear HNX HNO
            go_wp2_with fail
            go_roundw
            case rel => exact ⟨j + 1, by omega, by go_num, HN.out, HB3.out⟩
            case measure => simp [intOf]; omega
          · have HN := Lib.hid (HNO.out hgx)
            have hself : (G.toList == X.toList) = false := by
              cases h : (G.toList == X.toList) with
              | false => rfl
              | true => exact absurd (ba_ext (by simpa using h)) hgx
            clear HNX HNO hgx
            go_wp2_with fail
            go_ret
            exact ⟨by rw [HN.out]; rfl, HB3.out⟩
        · rw [if_pos hbo] at hX
          subst hX
          have hne := ba_empty hbo
          have hne1 : X.toList.isEmpty = false := by cases h : X.toList with | nil => exact absurd h hne | cons _ _ => rfl
          by_cases hgx : G = X
          · subst hgx
            have HN := Lib.hid (HNX.out rfl)
            have hself : (G.toList == G.toList) = true := by simp
            clear HNX HNO hne hbo
            go_wp2_with fail
            go_roundw
            case rel => exact ⟨j + 1, by omega, by go_num, HN.out, HB3.out⟩
            case measure => simp [intOf]; omega
          · have HN := Lib.hid (HNO.out hgx)
            have hself : (G.toList == X.toList) = false := by
              cases h : (G.toList == X.toList) with
              | false => rfl
              | true => exact absurd (ba_ext (by simpa using h)) hgx
            clear HNX HNO hgx hne hbo
            go_wp2_with fail
            go_ret
            exact ⟨by rw [HN.out]; rfl, HB3.out⟩
      · obtain rfl : j = n := by omega
        have HT : Hid (R = true) := Lib.hid (by rw [HE.out]; exact decide_eq_true HA.out)
        go_wp2_with fail
        go_ret
        exact ⟨by rw [HT.out]; rfl, HBR.out⟩
end Go.Proofs.YtiagofgcinlnhaaGreatDoor
