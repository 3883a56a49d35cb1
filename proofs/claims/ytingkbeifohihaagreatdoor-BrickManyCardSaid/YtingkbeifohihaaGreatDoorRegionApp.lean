/-
  A region that draws its order and ends in an append: single operations whose values are known, a new row, the append, an assignment. No statement is proved here.
-/
import Derived.Test.YtingkbeifohihaaGreatDoorBytes
import Derived.Outline
import Derived.Orders
import Derived.Test.YtingkbeifohihaaGreatDoorMarkSmall
namespace Go.Proofs.YtingkbeifohihaaGreatDoor
open Go.RowKit
set_option maxRecDepth 100000
set_option maxHeartbeats 2000000
theorem Aj (v : Nat) : ∀ (n j : Nat), j < n -> (aX v n)[j]? = some ((v >>> (8 * (n - 1 - j))).toUInt8)
 | 0, _, h => by omega
 | n + 1, 0, _ => by unfold aX; rw [List.getElem?_cons_zero]; rfl
 | n + 1, j + 1, h => by
   unfold aX
   rw [List.getElem?_cons_succ, Aj v n j (by omega)]
   congr 4
   omega
theorem wS (v n j : Nat) (h : j < n) : (aX v n).take (j + 1) = (aX v n).take j ++ [(v >>> (8 * (n - 1 - j))).toUInt8] := by
 rw [List.take_add_one, Aj v n j h]; rfl
theorem nT (l : List UInt8) (x : UInt8) : Lib.byteCells l ++ [Value.int .u8 (x.toNat : Int)] = Lib.byteCells (l ++ [x]) := by simp [Lib.byteCells]
theorem iW (l : List UInt8) : (Lib.byteCells l).length = l.length := by simp [Lib.byteCells]
theorem fS (v k : Nat) : (v : Int) / 2 ^ k % 256 = ((v >>> k).toUInt8.toNat : Int) := by
 have h : (v >>> k).toUInt8.toNat = v / 2 ^ k % 256 := by rw [Nat.shiftRight_eq_div_pow]; exact UInt8.toNat_ofNat'
 rw [h, Int.natCast_emod, Int.natCast_ediv, Int.natCast_pow]
 rfl
theorem wT (v n : Nat) (w : World) (_hv : v < 18446744073709551616) (hn0 : 0 < n) (hn : n <= 8) :
  Calls Tryz.prog 74 #[.int .u64 v, .int .i64 n] w fun e w' => e = .returned (.string ⟨(aX v n).toArray⟩) /\ Below w.heap.size w w' := by
 obtain ⟨i0, hi, hz0, hz1, hz2⟩ := info_parts iL
 go_enter Tryz.func74, Tryz.ntmps74
 go_wp2_with fail
 go_loopw [5, 6] (fun b i wr => ∃ c : Nat, c <= n /\ i = .int .i64 ((c : Int) - 1) /\ wr.ownsRow w.heap.size 5 1 b (n - c) (Lib.byteCells ((aX v n).take (n - c))) /\ Below w.heap.size w wr) (fun _ i _ => (intOf i + 1).toNat)
 case atStart => exact ⟨n, Nat.le_refl _, rfl, by simp; exact World.ownsRow_nil _ _ _ _, Below.refl _ _⟩
 case round =>
  obtain ⟨c, hc, rfl, hown, hbr⟩ := hrel
  by_cases hlt : 0 < c
  ·obtain ⟨k, rfl⟩ : ∃ k, c = k + 1 := ⟨c - 1, by omega⟩
   have HT := Lib.hid (wS v n (n - (k + 1)) (by omega))
   rw [show n - (k + 1) + 1 = n - k by omega, show n - 1 - (n - (k + 1)) = k by omega] at HT
   obtain ⟨j, hj⟩ : ∃ j, j = n - (k + 1) := ⟨_, rfl⟩
   have HLL := Lib.hid (show (Lib.byteCells ((aX v n).take j)).length = j by rw [iW, List.length_take, cF]; omega)
   rw [<- hj] at HT hown
   have HJ := Lib.hid hj
   have hj8 : j <= 8 := by omega
   clear hj
   have HOWN := Lib.hid hown
   clear hown
   go_wp2_with (at_builtin; refine wpList_append_lies _ rfl (.tmp 13) (.tmp 19) 79 rfl w.heap.size 5 i0 (.int .u8 0) 1 1 Tryz.underlying79 hi hz0 hz1 hz2 rfl (by omega) _ j _ rfl (HOWN.out.alloc _) ⟨wr.heap.size, 0, none⟩ 1 1 [.int .u8 ((v : Int) / 2 ^ (8 * k) % 256)] rfl rfl ?c1 ?c2 (by omega) (by unfold maxLen; omega) (by omega) (by have := hbr.size; simp; omega) _ rfl ?_)
   case c1 =>
    intro a u ha
    match a, ha with
    | 0, ha => simp at ha; subst ha; simp [Addr.add]
   case c2 => intro u hu; simp at hu; subst hu; rfl
   intro g cap w1 hown1 hg1 hor hlt1
   have hb1 : Below w.heap.size w w1 := (hbr.alloc hbr.size _).grown hg1 (by have := hbr.size; simp; omega) (fun k hk => (HOWN.out.lt k hk).1)
   have HB1 := Lib.hid hb1
   rw [fS v (8 * k), nT, <- HT.out] at hown1
   have HOW := Lib.hid hown1
   clear hown1 hg1 hor hb1 hbr
   go_wp2
   go_roundw
   case rel => exact ⟨k, by omega, by go_num, by rw [show n - k = j + 1 by have := HJ.out; omega] at *; exact HOW.out, HB1.out⟩
   case measure => simp [intOf] <;> omega
  ·obtain rfl : c = 0 := by omega
   rw [Nat.sub_zero] at hown
   have ht : (aX v n).take n = aX v n := List.take_of_length_le (by rw [cF]; exact Nat.le_refl _)
   rw [ht] at hown
   obtain ⟨g, cap, rfl, hg0, hlt1⟩ := hown.form hn0
   have hcv := rN wr _ g cap _ n (cF v n) hown
   clear hown ht
   go_wp2
   go_ret
   exact ⟨rfl, hbr⟩
open Go
section
variable {P : Program} {ops : Array Oper} {Q : Exit -> Act -> World -> Prop} {md : Region.Mode}
def aQ (md : Region.Mode) (ops : Array Oper) (i : Nat) : List Nat :=
 match ops[i]? with
 | none => []
 | some o => (o.after.toList.filter fun e => Region.binds md e).map (·.on)
def nU (md : Region.Mode) (ops : Array Oper) : Bool := (List.range ops.size).all fun i => (aQ md ops i).all fun j => decide (j < i)
theorem Hs {i j : Nat} {listed : Array Bool} (h : i ∈ Region.ready md ops listed) (hd : j ∈ aQ md ops i) : listed.getD j false = true := by
 obtain ⟨_, o, ho, hall⟩ := mem_ready.1 h
 simp only [aQ, ho] at hd
 obtain ⟨e, he, rfl⟩ := List.mem_map.1 hd
 obtain ⟨h1, h2⟩ := List.mem_filter.1 he
 exact hall e (Array.mem_toList_iff.1 h1) h2
theorem Ef (he : nU md ops = true) {listed : Array Bool} (hs : listed.size = ops.size) (hr : Region.ready md ops listed = []) : ∀ i, i < ops.size -> listed.getD i false = true := by
 intro i
 induction i using Nat.strongRecOn with
 | ind i ih =>
   intro hi
   cases hb : listed.getD i false with
   | true => rfl
   | false =>
     have hmem : i ∈ Region.ready md ops listed := by
      refine mem_ready.2 ⟨?_, ops[i], Array.getElem?_eq_getElem hi, fun e hE hB => ?_⟩
      ·have hl : i < listed.size := by omega
       simp [hl] at hb ⊢
       exact hb
      ·have hw : e.on ∈ aQ md ops i := by
        simp only [aQ, Array.getElem?_eq_getElem hi]
        exact List.mem_map.2 ⟨e, List.mem_filter.2 ⟨Array.mem_toList_iff.2 hE, hB⟩, rfl⟩
       have := List.all_eq_true.1 (List.all_eq_true.1 he i (List.mem_range.2 hi)) e.on hw
       have hlt : e.on < i := by simpa using this
       exact ih e.on hlt (by omega)
     rw [hr] at hmem
     cases hmem
theorem Ht (Inv : (Nat -> Bool) -> Act -> World -> Prop) (he : nU md ops = true)
  (hstep : ∀ L a w i, Inv L a w -> i < ops.size -> L i = false -> (∀ j ∈ aQ md ops i, L j = true) -> wpOp P ops Q i (Inv fun j => if i = j then true else L j) a w)
  (hdone : ∀ L a w, Inv L a w -> (∀ i, i < ops.size -> L i = true) -> Q .normal a w) :
  ∀ (fuel : Nat) (listed : Array Bool) (a : Act) (w : World), listed.size = ops.size -> listed.toList.countP (fun b => !b) <= fuel -> Inv (fun j => listed.getD j false) a w -> wpAny P md ops Q fuel listed a w := by
 intro fuel
 induction fuel with
 | zero =>
   intro listed a w hs hc hI
   have hr : Region.ready md ops listed = [] := by
    cases hr : Region.ready md ops listed with
    | nil => rfl
    | cons i rs =>
      have hm : i ∈ Region.ready md ops listed := by rw [hr]; exact List.mem_cons_self
      obtain ⟨h0, o, ho, _⟩ := mem_ready.1 hm
      have hi : i < ops.size := (Array.getElem?_eq_some_iff.1 ho).1
      have hl : i < listed.size := by omega
      simp [hl] at h0
      have hpos : 0 < listed.toList.countP (fun b => !b) := List.countP_pos_iff.2 ⟨listed[i], by simp, by simp [h0]⟩
      omega
   exact ⟨hr, hdone _ _ _ hI (Ef he hs hr)⟩
 | succ fuel ih =>
   intro listed a w hs hc hI
   refine ⟨fun hr => hdone _ _ _ hI (Ef he hs hr), fun i hm => ?_⟩
   obtain ⟨h0, o, ho, _⟩ := mem_ready.1 hm
   have hi : i < ops.size := (Array.getElem?_eq_some_iff.1 ho).1
   have hl : i < listed.size := by omega
   have hf : listed[i] = false := by simpa [hl] using h0
   refine wpOp_mono (fun a' w' h' => ih (listed.setIfInBounds i true) a' w' (by simp [hs]) ?_ ?_) (hstep _ a w i hI hi (by simp [hl, hf]) (fun j hj => Hs hm hj))
   ·have hset := List.countP_set (p := fun b : Bool => !b) (l := listed.toList) (i := i) (a := true) (by simpa using hl)
    have hpos : 0 < listed.toList.countP (fun b => !b) := List.countP_pos_iff.2 ⟨listed[i], by simp, by simp [hf]⟩
    simp [hf] at hset
    simp only [Array.toList_setIfInBounds]
    simp only [<- Array.countP_toList] at hset ⊢
    omega
   ·refine Eq.mp ?_ h'
    congr 1
    funext j
    by_cases hij : i = j
    ·subst hij; simp [hl]
    ·rw [if_neg hij, getD_set_ne false hij]
theorem cJ (Inv : (Nat -> Bool) -> Act -> World -> Prop) {id : Nat} {a : Act} {w : World} (hm : P.follows .mixedOrders = true) (he : nU .any ops = true)
  (h0 : Inv (fun _ => false) a { w with drawn := w.drawn + 1 })
  (hstep : ∀ L a w i, Inv L a w -> i < ops.size -> L i = false -> (∀ j ∈ aQ .any ops i, L j = true) -> wpOp P ops Q i (Inv fun j => if i = j then true else L j) a w)
  (hdone : ∀ L a w, Inv L a w -> (∀ i, i < ops.size -> L i = true) -> Q .normal a w) : (Code.region id ops true).wp P Q a w := by
 refine wp_region_any hm (Ht Inv he hstep hdone ops.size _ a _ (by simp) ?_ ?_)
 ·exact Nat.le_trans List.countP_le_length (by simp)
 ·refine Eq.mp ?_ h0
  congr 1
  funext j
  by_cases hj : j < ops.size
  ·simp [hj]
  ·simp [hj]
theorem rO (Inv : Act -> (Nat -> Bool) -> Act -> World -> Prop) {id : Nat} {a : Act} {w : World} (hm : P.follows .mixedOrders = true) (he : nU .any ops = true)
  (h0 : Inv a (fun _ => false) a { w with drawn := w.drawn + 1 })
  (hstep : ∀ L x w i, Inv a L x w -> i < ops.size -> L i = false -> (∀ j ∈ aQ .any ops i, L j = true) -> wpOp P ops Q i (Inv a fun j => if i = j then true else L j) x w)
  (hdone : ∀ L x w, Inv a L x w -> (∀ i, i < ops.size -> L i = true) -> Q .normal x w) : (Code.region id ops true).wp P Q a w := cJ (Inv a) hm he h0 hstep hdone
end
section
variable {P : Program} {ops : Array Oper} {Q : Exit -> Act -> World -> Prop} {K : Act -> World -> Prop} {x : Act} {w w' : World} {o : Oper} {i : Nat}
theorem aA {v : Value} (hi : ops[i]? = some o) (hg : o.guard = none) (hr : (execOp x.eval o).run P w = .ok (.value v) w') (hK : K (x.put o.dst v) w') : wpOp P ops Q i K x w := by
 simp only [wpOp, hi, Region.wanted, hg, Oper.wp, hr, Oper.upon]
 exact .inl hK
theorem eC (hi : ops[i]? = some o) (hg : o.guard = none) (hr : (execOp x.eval o).run P w = .ok .skip w') (hK : K (x.put o.dst undef) w') : wpOp P ops Q i K x w := by
 simp only [wpOp, hi, Region.wanted, hg, Oper.wp, hr, Oper.upon]
 exact .inl hK
theorem aP {f : FuncId} {args : Array Value} (hi : ops[i]? = some o) (hg : o.guard = none) (hr : (execOp x.eval o).run P w = .ok (.enter f args) w) (hc : Calls P f args w fun e w' => ∃ v, e = .returned v /\ K (x.put o.dst v) w') : wpOp P ops Q i K x w := by
 simp only [wpOp, hi, Region.wanted, hg, Oper.wp, hr, Oper.upon]
 exact .inl (hc.mono fun e w'' ⟨v, he, hK⟩ => by subst he; exact hK)
end
def bI (F : Act) (lo hi : Nat) (x : Act) : Prop := x.defers = F.defers /\ x.tmps.size = F.tmps.size /\ ∀ s, (s < lo \/ hi < s) -> x.tmps[s]? = F.tmps[s]?
theorem bI.refl (F : Act) (lo hi : Nat) : bI F lo hi F := ⟨rfl, rfl, fun _ _ => rfl⟩
theorem bI.put {F x : Act} {lo hi : Nat} (h : bI F lo hi x) (t : Nat) (v : Value) (h1 : lo <= t) (h2 : t <= hi) : bI F lo hi (x.put (some t) v) := by
 obtain ⟨h3, h4, h5⟩ := h
 refine ⟨h3, by simp [Act.put, h4], fun s hs => ?_⟩
 rw [<- h5 s hs]
 simp only [Act.put]
 exact Array.getElem?_setIfInBounds_ne (by omega)
theorem bI.get {F x : Act} {lo hi : Nat} (h : bI F lo hi x) (s : Nat) (hs : s < lo \/ hi < s) : x.tmps[s]?.getD undef = F.tmps[s]?.getD undef := by rw [h.2.2 s hs]
theorem kK (x : Act) (t : Nat) (v : Value) (h : t < x.tmps.size) : (x.put (some t) v).tmps[t]?.getD undef = v := by simp [Act.put, h]
theorem fN (x : Act) (t s : Nat) (v : Value) (h : t ≠ s) : (x.put (some t) v).tmps[s]?.getD undef = x.tmps[s]?.getD undef := by
 simp only [Act.put]
 rw [Array.getElem?_setIfInBounds_ne h]
def Hr (n lo : Nat) (fact : Nat -> Value -> Prop) (L : Nat -> Bool) (x : Act) : Prop := ∀ i, i < n -> L i = true -> fact i (x.tmps[lo + i]?.getD undef)
theorem Hr.next {n lo : Nat} {fact fact' : Nat -> Value -> Prop} {L : Nat -> Bool} {x : Act} (h : Hr n lo fact L x) (i : Nat) (v : Value) (hs : lo + i < x.tmps.size)
  (hk : ∀ j u, j < n -> L j = true -> fact j u -> fact' j u) (hv : fact' i v) : Hr n lo fact' (fun j => if i = j then true else L j) (x.put (some (lo + i)) v) := by
 intro j hj hL
 by_cases hij : i = j
 ·subst hij
  rw [kK x (lo + i) v hs]
  exact hv
 ·simp only [if_neg hij] at hL
  rw [fN x (lo + i) (lo + j) v (by omega)]
  exact hk j _ hj hL (h j hj hL)
theorem aB {l : List Value} {n : Nat} (h : l.length = n + 1) : ∃ x t, l = x :: t /\ t.length = n := by
 match l, h with
 | x :: t, h => exact ⟨x, t, rfl, by simpa using h⟩
theorem AE (a : Array Value) (h : a.size = 26) : ∃ x0 x1 x2 x3 x4 x5 x6 x7 x8 x9 x10 x11 x12 x13 x14 x15 x16 x17 x18 x19 x20 x21 x22 x23 x24 x25 : Value, a = #[x0, x1, x2, x3, x4, x5, x6, x7, x8, x9, x10, x11, x12, x13, x14, x15, x16, x17, x18, x19, x20, x21, x22, x23, x24, x25] := by
 obtain ⟨l⟩ := a
 have h : l.length = 26 := h
 obtain ⟨x0, t1, e1, h1⟩ := aB h
 obtain ⟨x1, t2, e2, h2⟩ := aB h1
 obtain ⟨x2, t3, e3, h3⟩ := aB h2
 obtain ⟨x3, t4, e4, h4⟩ := aB h3
 obtain ⟨x4, t5, e5, h5⟩ := aB h4
 obtain ⟨x5, t6, e6, h6⟩ := aB h5
 obtain ⟨x6, t7, e7, h7⟩ := aB h6
 obtain ⟨x7, t8, e8, h8⟩ := aB h7
 obtain ⟨x8, t9, e9, h9⟩ := aB h8
 obtain ⟨x9, t10, e10, h10⟩ := aB h9
 obtain ⟨x10, t11, e11, h11⟩ := aB h10
 obtain ⟨x11, t12, e12, h12⟩ := aB h11
 obtain ⟨x12, t13, e13, h13⟩ := aB h12
 obtain ⟨x13, t14, e14, h14⟩ := aB h13
 obtain ⟨x14, t15, e15, h15⟩ := aB h14
 obtain ⟨x15, t16, e16, h16⟩ := aB h15
 obtain ⟨x16, t17, e17, h17⟩ := aB h16
 obtain ⟨x17, t18, e18, h18⟩ := aB h17
 obtain ⟨x18, t19, e19, h19⟩ := aB h18
 obtain ⟨x19, t20, e20, h20⟩ := aB h19
 obtain ⟨x20, t21, e21, h21⟩ := aB h20
 obtain ⟨x21, t22, e22, h22⟩ := aB h21
 obtain ⟨x22, t23, e23, h23⟩ := aB h22
 obtain ⟨x23, t24, e24, h24⟩ := aB h23
 obtain ⟨x24, t25, e25, h25⟩ := aB h24
 obtain ⟨x25, t26, e26, h26⟩ := aB h25
 have e27 := List.eq_nil_of_length_eq_zero h26
 exact ⟨x0, x1, x2, x3, x4, x5, x6, x7, x8, x9, x10, x11, x12, x13, x14, x15, x16, x17, x18, x19, x20, x21, x22, x23, x24, x25, by rw [e1, e2, e3, e4, e5, e6, e7, e8, e9, e10, e11, e12, e13, e14, e15, e16, e17, e18, e19, e20, e21, e22, e23, e24, e25, e26, e27]⟩
theorem AF (a : Array Value) (h : a.size = 47) : ∃ x0 x1 x2 x3 x4 x5 x6 x7 x8 x9 x10 x11 x12 x13 x14 x15 x16 x17 x18 x19 x20 x21 x22 x23 x24 x25 x26 x27 x28 x29 x30 x31 x32 x33 x34 x35 x36 x37 x38 x39 x40 x41 x42 x43 x44 x45 x46 : Value, a = #[x0, x1, x2, x3, x4, x5, x6, x7, x8, x9, x10, x11, x12, x13, x14, x15, x16, x17, x18, x19, x20, x21, x22, x23, x24, x25, x26, x27, x28, x29, x30, x31, x32, x33, x34, x35, x36, x37, x38, x39, x40, x41, x42, x43, x44, x45, x46] := by
 obtain ⟨l⟩ := a
 have h : l.length = 47 := h
 obtain ⟨x0, t1, e1, h1⟩ := aB h
 obtain ⟨x1, t2, e2, h2⟩ := aB h1
 obtain ⟨x2, t3, e3, h3⟩ := aB h2
 obtain ⟨x3, t4, e4, h4⟩ := aB h3
 obtain ⟨x4, t5, e5, h5⟩ := aB h4
 obtain ⟨x5, t6, e6, h6⟩ := aB h5
 obtain ⟨x6, t7, e7, h7⟩ := aB h6
 obtain ⟨x7, t8, e8, h8⟩ := aB h7
 obtain ⟨x8, t9, e9, h9⟩ := aB h8
 obtain ⟨x9, t10, e10, h10⟩ := aB h9
 obtain ⟨x10, t11, e11, h11⟩ := aB h10
 obtain ⟨x11, t12, e12, h12⟩ := aB h11
 obtain ⟨x12, t13, e13, h13⟩ := aB h12
 obtain ⟨x13, t14, e14, h14⟩ := aB h13
 obtain ⟨x14, t15, e15, h15⟩ := aB h14
 obtain ⟨x15, t16, e16, h16⟩ := aB h15
 obtain ⟨x16, t17, e17, h17⟩ := aB h16
 obtain ⟨x17, t18, e18, h18⟩ := aB h17
 obtain ⟨x18, t19, e19, h19⟩ := aB h18
 obtain ⟨x19, t20, e20, h20⟩ := aB h19
 obtain ⟨x20, t21, e21, h21⟩ := aB h20
 obtain ⟨x21, t22, e22, h22⟩ := aB h21
 obtain ⟨x22, t23, e23, h23⟩ := aB h22
 obtain ⟨x23, t24, e24, h24⟩ := aB h23
 obtain ⟨x24, t25, e25, h25⟩ := aB h24
 obtain ⟨x25, t26, e26, h26⟩ := aB h25
 obtain ⟨x26, t27, e27, h27⟩ := aB h26
 obtain ⟨x27, t28, e28, h28⟩ := aB h27
 obtain ⟨x28, t29, e29, h29⟩ := aB h28
 obtain ⟨x29, t30, e30, h30⟩ := aB h29
 obtain ⟨x30, t31, e31, h31⟩ := aB h30
 obtain ⟨x31, t32, e32, h32⟩ := aB h31
 obtain ⟨x32, t33, e33, h33⟩ := aB h32
 obtain ⟨x33, t34, e34, h34⟩ := aB h33
 obtain ⟨x34, t35, e35, h35⟩ := aB h34
 obtain ⟨x35, t36, e36, h36⟩ := aB h35
 obtain ⟨x36, t37, e37, h37⟩ := aB h36
 obtain ⟨x37, t38, e38, h38⟩ := aB h37
 obtain ⟨x38, t39, e39, h39⟩ := aB h38
 obtain ⟨x39, t40, e40, h40⟩ := aB h39
 obtain ⟨x40, t41, e41, h41⟩ := aB h40
 obtain ⟨x41, t42, e42, h42⟩ := aB h41
 obtain ⟨x42, t43, e43, h43⟩ := aB h42
 obtain ⟨x43, t44, e44, h44⟩ := aB h43
 obtain ⟨x44, t45, e45, h45⟩ := aB h44
 obtain ⟨x45, t46, e46, h46⟩ := aB h45
 obtain ⟨x46, t47, e47, h47⟩ := aB h46
 have e48 := List.eq_nil_of_length_eq_zero h47
 exact ⟨x0, x1, x2, x3, x4, x5, x6, x7, x8, x9, x10, x11, x12, x13, x14, x15, x16, x17, x18, x19, x20, x21, x22, x23, x24, x25, x26, x27, x28, x29, x30, x31, x32, x33, x34, x35, x36, x37, x38, x39, x40, x41, x42, x43, x44, x45, x46, by rw [e1, e2, e3, e4, e5, e6, e7, e8, e9, e10, e11, e12, e13, e14, e15, e16, e17, e18, e19, e20, e21, e22, e23, e24, e25, e26, e27, e28, e29, e30, e31, e32, e33, e34, e35, e36, e37, e38, e39, e40, e41, e42, e43, e44, e45, e46, e47, e48]⟩
def wZ (ops : Array Oper) (n : Nat) : Bool := (List.range n).all fun i => (List.range (n + 1)).any fun j => decide (i < j) && (aQ .any ops j).contains i
theorem gO {ops : Array Oper} {n : Nat} {L : Nat -> Bool} (hs : wZ ops n = true) (hc : ∀ i, L i = true -> ∀ j ∈ aQ .any ops i, L j = true) (hn : L n = true) : ∀ i, i < n -> L i = true := by
 have key : ∀ d i, i < n -> n - i <= d -> L i = true := by
  intro d
  induction d with
  | zero => intro i h1 h2; omega
  | succ d ih =>
    intro i h1 h2
    have h := List.all_eq_true.1 hs i (List.mem_range.2 h1)
    obtain ⟨j, hj, hw⟩ := List.any_eq_true.1 h
    simp only [Bool.and_eq_true, decide_eq_true_eq, List.contains_iff_mem] at hw
    have hj' : j < n + 1 := List.mem_range.1 hj
    refine hc j ?_ i hw.2
    by_cases e : j = n
    ·rw [e]; exact hn
    ·exact ih j (by omega) (by omega)
 exact fun i h => key (n - i) i h (Nat.le_refl _)
theorem xB {w w' : World} {base size n : Nat} {e : TypeId} {v : Value} {xs : List Value} (h : w.ownsRow base e size v n xs) (hg : w.grownBy w' none) : w'.ownsRow base e size v n xs :=
 h.kept hg (by cases hv : v.ownBlock <;> simp)
section
variable {P : Program} {ops : Array Oper} {Q : Exit -> Act -> World -> Prop}
def Yy (ops : Array Oper) (lo k d N : Nat) (V : Nat -> Value) (base : Nat) (e : TypeId) (b : Value) (n : Nat) (xs news : List Value) (w0 : World) (F : Act) (L : Nat -> Bool) (x : Act) (w : World) : Prop :=
 (∀ i, L i = true -> ∀ j ∈ aQ .any ops i, L j = true) /\
 (x.defers = F.defers /\ x.tmps.size = N /\ ∀ s, s ≠ d -> (s < lo \/ lo + k + 1 < s) -> x.tmps[s]? = F.tmps[s]?) /\
 (L (k + 2) = false -> x.tmps[d]? = F.tmps[d]?) /\
 (∀ i, i < k -> L i = true -> x.tmps[lo + i]?.getD undef = V i) /\
 (L (k + 1) = false -> w0.grownBy w none /\ w.ownsRow base e 1 b n xs /\ (L k = true -> ∃ g, x.tmps[lo + k]?.getD undef = .slice (some ⟨g, 0, none⟩) news.length news.length /\ w0.heap.size <= g /\ aG w g e news.toArray)) /\
 (L (k + 1) = true -> w0.grownBy w b.ownBlock /\ ∃ g cap, x.tmps[lo + k + 1]?.getD undef = .slice (some ⟨g, 0, none⟩) (n + news.length) cap /\ w.ownsRow base e 1 (.slice (some ⟨g, 0, none⟩) (n + news.length) cap) (n + news.length) (xs ++ news) /\ (b.ownBlock = some g \/ w0.heap.size <= g) /\ (L (k + 2) = true -> x.tmps[d]?.getD undef = .slice (some ⟨g, 0, none⟩) (n + news.length) cap))
theorem kJ (x : Act) (t s : Nat) (v : Value) (h : t ≠ s) : (x.put (some t) v).tmps[s]? = x.tmps[s]? := by
 simp only [Act.put]
 rw [Array.getElem?_setIfInBounds_ne h]
theorem mL (lo k d N r : Nat) (V : Nat -> Value) (base : Nat) (t e : TypeId) (i0 : TypeInfo) (z : Value) (b : Value) (n : Nat) (xs news : List Value) {id : Nat} {a : Act} {w : World}
  (hm : P.follows .mixedOrders = true) (he : nU .any ops = true) (hk : ops.size = k + 3) (hsink : wZ ops (k + 1) = true) (hlast : (aQ .any ops (k + 2)).contains (k + 1) = true)
  (hN : a.tmps.size = N) (hlo : lo + k + 1 < N) (hd : d < lo)
  (ht : P.underlying t = some (.slice e)) (hi : P.info? e = some i0) (hz : i0.zero = some z) (hsize : i0.size = 1) (hby : i0.bytes <= 16) (hzs : z.cells.size = 1)
  (hown : w.ownsRow base e 1 b n xs) (hbase : base <= w.heap.size) (hnews : 0 < news.length) (h1 : ∀ u ∈ news, u.oneCell' = true) (hsum : n + news.length <= 1000000)
  (hops : ∀ i, i < k -> ∀ (x : Act) (w' : World), (x.defers = a.defers /\ x.tmps.size = N /\ ∀ s, (s < lo \/ lo + k + 1 < s) -> x.tmps[s]? = a.tmps[s]?) -> w.drew.grownBy w' none -> (∀ j ∈ aQ .any ops i, j < k -> x.tmps[lo + j]?.getD undef = V j) ->
   wpOp P ops Q i (fun x' w'' => x' = x.put (some (lo + i)) (V i) /\ w'.grownBy w'' none) x w')
  (hbuild : ∀ (x : Act) (w' : World), (∀ j ∈ aQ .any ops k, j < k -> x.tmps[lo + j]?.getD undef = V j) -> ∃ o, ops[k]? = some o /\ o.guard = none /\ o.dst = some (lo + k) /\ (execOp x.eval o).run P w' = .ok (.value (.slice (some ⟨w'.heap.size, 0, none⟩) news.length news.length)) (w'.alloc (.cells news.toArray e)))
  (oa ol : Oper) (happ : ops[k + 1]? = some oa) (hga : oa.guard = none) (hda : oa.dst = some (lo + k + 1)) (hoa : oa.op = .call { callee := .builtin .append, args := #[.tmp (lo + r), .tmp (lo + k)], argTypes := #[t, t] }) (hr : r < k) (hVr : V r = b)
  (hol : ops[k + 2]? = some ol) (hgl : ol.guard = none) (hdl : ol.dst = some d) (hoL : ol.op = .assign (.tmp (lo + k + 1)))
  (hK : ∀ (x : Act) (w' : World) (g cap : Nat), x.defers = a.defers -> x.tmps.size = N -> (∀ s, s ≠ d -> (s < lo \/ lo + k + 1 < s) -> x.tmps[s]? = a.tmps[s]?) -> x.tmps[d]?.getD undef = .slice (some ⟨g, 0, none⟩) (n + news.length) cap ->
   w'.ownsRow base e 1 (.slice (some ⟨g, 0, none⟩) (n + news.length) cap) (n + news.length) (xs ++ news) -> w.drew.grownBy w' b.ownBlock -> (b.ownBlock = some g \/ w.heap.size <= g) -> Q .normal x w') : (Code.region id ops true).wp P Q a w := by
 refine cJ (Yy ops lo k d N V base e b n xs news w.drew a) hm he ?h0 ?hs ?hd
 case h0 =>
  refine ⟨fun i h => (by cases h), ⟨rfl, hN, fun _ _ _ => rfl⟩, fun _ => rfl, fun i _ h => (by cases h), fun _ => ⟨aC _ _, hown, fun h => (by cases h)⟩, fun h => (by cases h)⟩
 case hd =>
  intro L x w' ⟨_, hf, _, _, _, h2⟩ hall
  obtain ⟨hg, g, cap, _, ho, hw, hdd⟩ := h2 (hall _ (by omega))
  exact hK x w' g cap hf.1 hf.2.1 hf.2.2 (hdd (hall _ (by omega))) ho hg hw
 case hs =>
  intro L x w' i ⟨hc, hf, hd0, hv, hopen, hend⟩ hik hLi hw
  have hclosed : ∀ i', (fun j => if i = j then true else L j) i' = true -> ∀ j ∈ aQ .any ops i', (fun j => if i = j then true else L j) j = true := by
   intro i' h' j hj
   by_cases e1 : i = j
   ·simp [e1]
   ·by_cases e2 : i = i'
    ·subst e2
     simp [hw j hj]
    ·simp only [if_neg e2] at h'
     simp [hc i' h' j hj]
  have hlastw : L (k + 2) = true -> L (k + 1) = true := fun h => hc _ h _ (by simpa using hlast)
  have hdown : L (k + 1) = true -> ∀ i, i < k + 1 -> L i = true := fun h => gO hsink hc h
  by_cases hi1 : i < k
  ·have hL1 : L (k + 1) = false := by
    cases h : L (k + 1) with
    | false => rfl
    | true => have := hdown h i (by omega); rw [hLi] at this; cases this
   have hL2 : L (k + 2) = false := by
    cases h : L (k + 2) with
    | false => rfl
    | true => have := hlastw h; rw [hL1] at this; cases this
   obtain ⟨hg, ho, hb⟩ := hopen hL1
   have hd1 := hd0 hL2
   refine wpOp_mono ?_ (hops i hi1 x w' ⟨hf.1, hf.2.1, fun s hs => by
    by_cases e1 : s = d
    ·rw [e1]; exact hd1
    ·exact hf.2.2 s e1 hs⟩ hg (fun j hj hjk => hv j hjk (hw j hj)))
   rintro x' w'' ⟨rfl, hg'⟩
   refine ⟨hclosed, ⟨hf.1, by simp [Act.put, hf.2.1], fun s hsd hs => (kJ x _ s _ (by omega)).trans (hf.2.2 s hsd hs)⟩, fun _ => (kJ x _ d _ (by omega)).trans hd1, ?_, ?_, ?_⟩
   ·intro j hj hLj
    by_cases e1 : i = j
    ·subst e1
     exact kK x _ _ (by rw [hf.2.1]; omega)
    ·simp only [if_neg e1] at hLj
     rw [fN x _ _ _ (by omega)]
     exact hv j hj hLj
   ·intro _
    refine ⟨dH hg hg', xB ho hg', fun hLk => ?_⟩
    simp only [if_neg (show ¬ i = k by omega)] at hLk
    obtain ⟨g, e1, e2, e3⟩ := hb hLk
    refine ⟨g, ?_, e2, e3.grown hg' (by intro e; cases e)⟩
    rw [fN x _ _ _ (by omega)]
    exact e1
   ·intro h
    simp only [if_neg (show ¬ i = k + 1 by omega), hL1] at h
    cases h
  ·by_cases hi2 : i = k
   ·subst hi2
    have hL1 : L (i + 1) = false := by
     cases h : L (i + 1) with
     | false => rfl
     | true => have := hdown h i (by omega); rw [hLi] at this; cases this
    have hL2 : L (i + 2) = false := by
     cases h : L (i + 2) with
     | false => rfl
     | true => have := hlastw h; rw [hL1] at this; cases this
    obtain ⟨hg, ho, hb⟩ := hopen hL1
    have hd1 := hd0 hL2
    obtain ⟨o, ho1, ho2, ho3, ho4⟩ := hbuild x w' (fun j hj hjk => hv j hjk (hw j hj))
    refine aA ho1 ho2 ho4 ?_
    rw [ho3]
    refine ⟨hclosed, ⟨hf.1, by simp [Act.put, hf.2.1], fun s hsd hs => (kJ x _ s _ (by omega)).trans (hf.2.2 s hsd hs)⟩, fun _ => (kJ x _ d _ (by omega)).trans hd1, ?_, ?_, ?_⟩
    ·intro j hj hLj
     simp only [if_neg (show ¬ i = j by omega)] at hLj
     rw [fN x _ _ _ (by omega)]
     exact hv j hj hLj
    ·intro _
     refine ⟨bH hg _, ho.alloc _, fun _ => ⟨w'.heap.size, kK x _ _ (by rw [hf.2.1]; omega), hg.size, aG.new _ _ _⟩⟩
    ·intro h
     simp only [if_neg (show ¬ i = i + 1 by omega), hL1] at h
     cases h
   ·by_cases hi3 : i = k + 1
    ·subst hi3
     have hall := fun j hj => gO (L := fun j => if k + 1 = j then true else L j) hsink hclosed (by simp) j hj
     have hLr : L r = true := by have := hall r (by omega); simpa only [if_neg (show ¬ k + 1 = r by omega)] using this
     have hLk : L k = true := by have := hall k (by omega); simpa only [if_neg (show ¬ k + 1 = k by omega)] using this
     have hL2 : L (k + 2) = false := by
      cases h : L (k + 2) with
      | false => rfl
      | true => have := hlastw h; rw [hLi] at this; cases this
     obtain ⟨hg, ho, hb⟩ := hopen hLi
     obtain ⟨g, eg, hg0, hB⟩ := hb hLk
     have er := hv r hr hLr
     rw [hVr] at er
     have hd1 := hd0 hL2
     simp only [wpOp, happ, Region.wanted, hga]
     refine Or.inl ?_
     refine wp_append_lies w' (.tmp (lo + r)) (.tmp (lo + k)) t hoa base e i0 z 1 i0.bytes ht hi hz hsize rfl hzs (by omega) b n xs (by simpa [Act.eval] using er) ho ⟨g, 0, none⟩ news.length news.length news (by simpa [Act.eval] using eg) (by omega) ?_ h1 hnews (by unfold maxLen; omega) ?_ (Nat.le_trans hbase hg.size) _ rfl ?_
     ·intro j u hu
      rw [show (⟨g, 0, none⟩ : Addr).add j = ⟨g, 0 + j, none⟩ by unfold Addr.add; split <;> simp_all, hB.cell]
      simpa using hu
     ·have := Nat.mul_le_mul hsum hby
      omega
     ·intro g2 cap w2 hown2 hgr2 hat _
      rw [hda]
      refine ⟨hclosed, ⟨hf.1, by simp [Act.put, hf.2.1], fun s hsd hs => (kJ x _ s _ (by omega)).trans (hf.2.2 s hsd hs)⟩, fun _ => (kJ x _ d _ (by omega)).trans hd1, ?_, ?_, ?_⟩
      ·intro j hj hLj
       simp only [if_neg (show ¬ k + 1 = j by omega)] at hLj
       rw [fN x _ _ _ (by omega)]
       exact hv j hj hLj
      ·intro h
       simp at h
      ·intro _
       refine ⟨dH (Rf hg) hgr2, g2, cap, kK x _ _ (by rw [hf.2.1]; omega), hown2, hat.imp (fun e => e) (fun e => by rw [e]; exact hg.size), fun h => ?_⟩
       simp only [if_neg (show ¬ k + 1 = k + 2 by omega), hL2] at h
       cases h
    ·have hi4 : i = k + 2 := by omega
     subst hi4
     have hL1 : L (k + 1) = true := hw _ (by simpa using hlast)
     obtain ⟨hg, g, cap, e1, e2, e3, _⟩ := hend hL1
     refine aA (v := .slice (some ⟨g, 0, none⟩) (n + news.length) cap) (w' := w') hol hgl ?_ ?_
     ·have ev : x.eval (.tmp (lo + k + 1)) = .slice (some ⟨g, 0, none⟩) (n + news.length) cap := by simpa [Act.eval] using e1
      simp [execOp, hoL, ev]
     ·rw [hdl]
      refine ⟨hclosed, ⟨hf.1, by simp [Act.put, hf.2.1], fun s hsd hs => (kJ x _ s _ (by omega)).trans (hf.2.2 s hsd hs)⟩, fun h => (by simp at h), ?_, fun h => ?_, fun _ => ⟨hg, g, cap, ?_, e2, e3, fun _ => kK x _ _ (by rw [hf.2.1]; omega)⟩⟩
      ·intro j hj hLj
       simp only [if_neg (show ¬ k + 2 = j by omega)] at hLj
       rw [fN x _ _ _ (by omega)]
       exact hv j hj hLj
      ·simp only [if_neg (show ¬ k + 2 = k + 1 by omega), hL1] at h
       cases h
      ·rw [fN x _ _ _ (by omega)]
       exact e1
end
theorem uC {F : List Value} {x : Act} (lo m d : Nat) (v : Value) (hd : x.defers = []) (hs : x.tmps.size = F.length) (hk : ∀ s, s ≠ d -> (s < lo \/ lo + m <= s) -> x.tmps[s]? = F.toArray[s]?) (hv : x.tmps[d]?.getD undef = v) (hdl : d < lo) (hlo : lo + m <= F.length) :
  ∃ ys : List Value, ys.length = m /\ x = ⟨((F.take lo).set d v ++ (ys ++ F.drop (lo + m))).toArray, []⟩ := by
 obtain ⟨⟨X⟩, D⟩ := x
 simp only at hd
 subst hd
 have hs : X.length = F.length := hs
 have hk : ∀ s, s ≠ d -> (s < lo \/ lo + m <= s) -> X[s]? = F[s]? := fun s h1 h2 => by simpa using hk s h1 h2
 have hv : X[d]?.getD undef = v := by simpa using hv
 refine ⟨(X.drop lo).take m, by rw [List.length_take, List.length_drop]; omega, ?_⟩
 congr 2
 apply List.ext_getElem?
 intro i
 by_cases h1 : i < lo
 ·rw [List.getElem?_append_left (by rw [List.length_set, List.length_take]; omega), List.getElem?_set, List.length_take, List.getElem?_take, if_pos h1]
  by_cases h2 : d = i
  ·rw [if_pos h2, if_pos (by omega), <- h2, <- hv, List.getElem?_eq_getElem (by omega)]
   rfl
  ·rw [if_neg h2]
   exact hk i (fun e => h2 e.symm) (Or.inl h1)
 ·rw [List.getElem?_append_right (by rw [List.length_set, List.length_take]; omega), List.length_set, List.length_take, Nat.min_eq_left (by omega)]
  have hl : ((X.drop lo).take m).length = m := by rw [List.length_take, List.length_drop]; omega
  by_cases h2 : i < lo + m
  ·rw [List.getElem?_append_left (by rw [hl]; omega), List.getElem?_take, if_pos (by omega), List.getElem?_drop]
   congr 1
   omega
  ·rw [List.getElem?_append_right (by rw [hl]; omega), hl, List.getElem?_drop, hk i (by omega) (Or.inr (by omega))]
   congr 1
   omega
theorem Yz (l : List Value) (h : l.length = 27) : ∃ y0 y1 y2 y3 y4 y5 y6 y7 y8 y9 y10 y11 y12 y13 y14 y15 y16 y17 y18 y19 y20 y21 y22 y23 y24 y25 y26 : Value, l = [y0, y1, y2, y3, y4, y5, y6, y7, y8, y9, y10, y11, y12, y13, y14, y15, y16, y17, y18, y19, y20, y21, y22, y23, y24, y25, y26] := by
 obtain ⟨y0, t1, e1, h1⟩ := aB h
 obtain ⟨y1, t2, e2, h2⟩ := aB h1
 obtain ⟨y2, t3, e3, h3⟩ := aB h2
 obtain ⟨y3, t4, e4, h4⟩ := aB h3
 obtain ⟨y4, t5, e5, h5⟩ := aB h4
 obtain ⟨y5, t6, e6, h6⟩ := aB h5
 obtain ⟨y6, t7, e7, h7⟩ := aB h6
 obtain ⟨y7, t8, e8, h8⟩ := aB h7
 obtain ⟨y8, t9, e9, h9⟩ := aB h8
 obtain ⟨y9, t10, e10, h10⟩ := aB h9
 obtain ⟨y10, t11, e11, h11⟩ := aB h10
 obtain ⟨y11, t12, e12, h12⟩ := aB h11
 obtain ⟨y12, t13, e13, h13⟩ := aB h12
 obtain ⟨y13, t14, e14, h14⟩ := aB h13
 obtain ⟨y14, t15, e15, h15⟩ := aB h14
 obtain ⟨y15, t16, e16, h16⟩ := aB h15
 obtain ⟨y16, t17, e17, h17⟩ := aB h16
 obtain ⟨y17, t18, e18, h18⟩ := aB h17
 obtain ⟨y18, t19, e19, h19⟩ := aB h18
 obtain ⟨y19, t20, e20, h20⟩ := aB h19
 obtain ⟨y20, t21, e21, h21⟩ := aB h20
 obtain ⟨y21, t22, e22, h22⟩ := aB h21
 obtain ⟨y22, t23, e23, h23⟩ := aB h22
 obtain ⟨y23, t24, e24, h24⟩ := aB h23
 obtain ⟨y24, t25, e25, h25⟩ := aB h24
 obtain ⟨y25, t26, e26, h26⟩ := aB h25
 obtain ⟨y26, t27, e27, h27⟩ := aB h26
 have e28 := List.eq_nil_of_length_eq_zero h27
 exact ⟨y0, y1, y2, y3, y4, y5, y6, y7, y8, y9, y10, y11, y12, y13, y14, y15, y16, y17, y18, y19, y20, y21, y22, y23, y24, y25, y26, by rw [e1, e2, e3, e4, e5, e6, e7, e8, e9, e10, e11, e12, e13, e14, e15, e16, e17, e18, e19, e20, e21, e22, e23, e24, e25, e26, e27, e28]⟩
theorem Za (l : List Value) (h : l.length = 32) : ∃ y0 y1 y2 y3 y4 y5 y6 y7 y8 y9 y10 y11 y12 y13 y14 y15 y16 y17 y18 y19 y20 y21 y22 y23 y24 y25 y26 y27 y28 y29 y30 y31 : Value, l = [y0, y1, y2, y3, y4, y5, y6, y7, y8, y9, y10, y11, y12, y13, y14, y15, y16, y17, y18, y19, y20, y21, y22, y23, y24, y25, y26, y27, y28, y29, y30, y31] := by
 obtain ⟨y0, t1, e1, h1⟩ := aB h
 obtain ⟨y1, t2, e2, h2⟩ := aB h1
 obtain ⟨y2, t3, e3, h3⟩ := aB h2
 obtain ⟨y3, t4, e4, h4⟩ := aB h3
 obtain ⟨y4, t5, e5, h5⟩ := aB h4
 obtain ⟨y5, t6, e6, h6⟩ := aB h5
 obtain ⟨y6, t7, e7, h7⟩ := aB h6
 obtain ⟨y7, t8, e8, h8⟩ := aB h7
 obtain ⟨y8, t9, e9, h9⟩ := aB h8
 obtain ⟨y9, t10, e10, h10⟩ := aB h9
 obtain ⟨y10, t11, e11, h11⟩ := aB h10
 obtain ⟨y11, t12, e12, h12⟩ := aB h11
 obtain ⟨y12, t13, e13, h13⟩ := aB h12
 obtain ⟨y13, t14, e14, h14⟩ := aB h13
 obtain ⟨y14, t15, e15, h15⟩ := aB h14
 obtain ⟨y15, t16, e16, h16⟩ := aB h15
 obtain ⟨y16, t17, e17, h17⟩ := aB h16
 obtain ⟨y17, t18, e18, h18⟩ := aB h17
 obtain ⟨y18, t19, e19, h19⟩ := aB h18
 obtain ⟨y19, t20, e20, h20⟩ := aB h19
 obtain ⟨y20, t21, e21, h21⟩ := aB h20
 obtain ⟨y21, t22, e22, h22⟩ := aB h21
 obtain ⟨y22, t23, e23, h23⟩ := aB h22
 obtain ⟨y23, t24, e24, h24⟩ := aB h23
 obtain ⟨y24, t25, e25, h25⟩ := aB h24
 obtain ⟨y25, t26, e26, h26⟩ := aB h25
 obtain ⟨y26, t27, e27, h27⟩ := aB h26
 obtain ⟨y27, t28, e28, h28⟩ := aB h27
 obtain ⟨y28, t29, e29, h29⟩ := aB h28
 obtain ⟨y29, t30, e30, h30⟩ := aB h29
 obtain ⟨y30, t31, e31, h31⟩ := aB h30
 obtain ⟨y31, t32, e32, h32⟩ := aB h31
 have e33 := List.eq_nil_of_length_eq_zero h32
 exact ⟨y0, y1, y2, y3, y4, y5, y6, y7, y8, y9, y10, y11, y12, y13, y14, y15, y16, y17, y18, y19, y20, y21, y22, y23, y24, y25, y26, y27, y28, y29, y30, y31, by rw [e1, e2, e3, e4, e5, e6, e7, e8, e9, e10, e11, e12, e13, e14, e15, e16, e17, e18, e19, e20, e21, e22, e23, e24, e25, e26, e27, e28, e29, e30, e31, e32, e33]⟩
end Go.Proofs.YtingkbeifohihaaGreatDoor
