/-
  A region that draws its order and ends in an append: single operations whose values are known, a new row, the append, an assignment. No statement is proved here.
-/
import Derived.Orders
import Derived.Test.YtiagofgcinlnhaaGreatDoorDiskPure
import Derived.Test.YtiagofgcinlnhaaGreatDoorShelf
import Derived.BigCall
import Derived.Deep.AppendLies
import Derived.Lib.Bytes
namespace Go.Proofs.YtiagofgcinlnhaaGreatDoor
open Go
section
variable {P : Program} {ops : Array Oper} {Q : Exit → Act → World → Prop} {md : Region.Mode}
def waitsFor (md : Region.Mode) (ops : Array Oper) (i : Nat) : List Nat :=
  match ops[i]? with
  | none => []
  | some o => (o.after.toList.filter fun e => Region.binds md e).map (·.on)
def early (md : Region.Mode) (ops : Array Oper) : Bool := (List.range ops.size).all fun i => (waitsFor md ops i).all fun j => decide (j < i)
theorem waits_done {i j : Nat} {listed : Array Bool} (h : i ∈ Region.ready md ops listed) (hd : j ∈ waitsFor md ops i) : listed.getD j false = true := by
  obtain ⟨_, o, ho, hall⟩ := mem_ready.1 h
  simp only [waitsFor, ho] at hd
  obtain ⟨e, he, rfl⟩ := List.mem_map.1 hd
  obtain ⟨h1, h2⟩ := List.mem_filter.1 he
  exact hall e (Array.mem_toList_iff.1 h1) h2
theorem all_done (he : early md ops = true) {listed : Array Bool} (hs : listed.size = ops.size) (hr : Region.ready md ops listed = []) : ∀ i, i < ops.size → listed.getD i false = true := by
  intro i
  induction i using Nat.strongRecOn with
  | ind i ih =>
    intro hi
    cases hb : listed.getD i false with
    | true => rfl
    | false =>
      have hmem : i ∈ Region.ready md ops listed := by
        refine mem_ready.2 ⟨?_, ops[i], Array.getElem?_eq_getElem hi, fun e hE hB => ?_⟩
        · have hl : i < listed.size := by omega
          simp [hl] at hb ⊢
          exact hb
        · have hw : e.on ∈ waitsFor md ops i := by
            simp only [waitsFor, Array.getElem?_eq_getElem hi]
            exact List.mem_map.2 ⟨e, List.mem_filter.2 ⟨Array.mem_toList_iff.2 hE, hB⟩, rfl⟩
          have := List.all_eq_true.1 (List.all_eq_true.1 he i (List.mem_range.2 hi)) e.on hw
          have hlt : e.on < i := by simpa using this
          exact ih e.on hlt (by omega)
      rw [hr] at hmem
      cases hmem
theorem wpAny_kept (Inv : (Nat → Bool) → Act → World → Prop) (he : early md ops = true)
    (hstep : ∀ L a w i, Inv L a w → i < ops.size → L i = false → (∀ j ∈ waitsFor md ops i, L j = true) → wpOp P ops Q i (Inv fun j => if i = j then true else L j) a w)
    (hdone : ∀ L a w, Inv L a w → (∀ i, i < ops.size → L i = true) → Q .normal a w) :
    ∀ (fuel : Nat) (listed : Array Bool) (a : Act) (w : World), listed.size = ops.size → listed.toList.countP (fun b => !b) ≤ fuel → Inv (fun j => listed.getD j false) a w → wpAny P md ops Q fuel listed a w := by
  intro fuel
  induction fuel with
  | zero =>
    intro listed a w hs hc hI
    have hr : Region.ready md ops listed = [] := by
      cases hr : Region.ready md ops listed with
      | nil => rfl
      | cons i rs =>
        have hm : i ∈ Region.ready md ops listed := by rw [hr]; exact List.mem_cons_self
        obtain ⟨h0, o, ho, _⟩ := mem_ready.1 hm
        have hi : i < ops.size := (Array.getElem?_eq_some_iff.1 ho).1
        have hl : i < listed.size := by omega
        simp [hl] at h0
        have hpos : 0 < listed.toList.countP (fun b => !b) := List.countP_pos_iff.2 ⟨listed[i], by simp, by simp [h0]⟩
        omega
    exact ⟨hr, hdone _ _ _ hI (all_done he hs hr)⟩
  | succ fuel ih =>
    intro listed a w hs hc hI
    refine ⟨fun hr => hdone _ _ _ hI (all_done he hs hr), fun i hm => ?_⟩
    obtain ⟨h0, o, ho, _⟩ := mem_ready.1 hm
    have hi : i < ops.size := (Array.getElem?_eq_some_iff.1 ho).1
    have hl : i < listed.size := by omega
    have hf : listed[i] = false := by simpa [hl] using h0
    refine wpOp_mono (fun a' w' h' => ih (listed.setIfInBounds i true) a' w' (by simp [hs]) ?_ ?_) (hstep _ a w i hI hi (by simp [hl, hf]) (fun j hj => waits_done hm hj))
    · have hset := List.countP_set (p := fun b : Bool => !b) (l := listed.toList) (i := i) (a := true) (by simpa using hl)
      have hpos : 0 < listed.toList.countP (fun b => !b) := List.countP_pos_iff.2 ⟨listed[i], by simp, by simp [hf]⟩
      simp [hf] at hset
      simp only [Array.toList_setIfInBounds]
      simp only [← Array.countP_toList] at hset ⊢
      omega
    · refine Eq.mp ?_ h'
      congr 1
      funext j
      by_cases hij : i = j
      · subst hij; simp [hl]
      · rw [if_neg hij, getD_set_ne false hij]
theorem wp_region_kept (Inv : (Nat → Bool) → Act → World → Prop) {id : Nat} {a : Act} {w : World} (hm : P.follows .mixedOrders = true) (he : early .any ops = true)
    (h0 : Inv (fun _ => false) a { w with drawn := w.drawn + 1 })
    (hstep : ∀ L a w i, Inv L a w → i < ops.size → L i = false → (∀ j ∈ waitsFor .any ops i, L j = true) → wpOp P ops Q i (Inv fun j => if i = j then true else L j) a w)
    (hdone : ∀ L a w, Inv L a w → (∀ i, i < ops.size → L i = true) → Q .normal a w) : (Code.region id ops true).wp P Q a w := by
  refine wp_region_any hm (wpAny_kept Inv he hstep hdone ops.size _ a _ (by simp) ?_ ?_)
  · exact Nat.le_trans List.countP_le_length (by simp)
  · refine Eq.mp ?_ h0
    congr 1
    funext j
    by_cases hj : j < ops.size
    · simp [hj]
    · simp [hj]
end
section
variable {P : Program} {ops : Array Oper} {Q : Exit → Act → World → Prop} {K : Act → World → Prop} {x : Act} {w w' : World} {o : Oper} {i : Nat}
theorem wpOp_value {v : Value} (hi : ops[i]? = some o) (hg : o.guard = none) (hr : (execOp x.eval o).run P w = .ok (.value v) w') (hK : K (x.put o.dst v) w') : wpOp P ops Q i K x w := by
  simp only [wpOp, hi, Region.wanted, hg, Oper.wp, hr, Oper.upon]
  exact .inl hK
theorem wpOp_skip (hi : ops[i]? = some o) (hg : o.guard = none) (hr : (execOp x.eval o).run P w = .ok .skip w') (hK : K (x.put o.dst undef) w') : wpOp P ops Q i K x w := by
  simp only [wpOp, hi, Region.wanted, hg, Oper.wp, hr, Oper.upon]
  exact .inl hK
theorem wpOp_call {f : FuncId} {args : Array Value} (hi : ops[i]? = some o) (hg : o.guard = none) (hr : (execOp x.eval o).run P w = .ok (.enter f args) w) (hc : Calls P f args w fun e w' => ∃ v, e = .returned v ∧ K (x.put o.dst v) w') : wpOp P ops Q i K x w := by
  simp only [wpOp, hi, Region.wanted, hg, Oper.wp, hr, Oper.upon]
  exact .inl (hc.mono fun e w'' ⟨v, he, hK⟩ => by subst he; exact hK)
end
open Go.RowKit
def FrameKept (F : Act) (lo hi : Nat) (x : Act) : Prop := x.defers = F.defers ∧ x.tmps.size = F.tmps.size ∧ ∀ s, (s < lo ∨ hi < s) → x.tmps[s]? = F.tmps[s]?
theorem FrameKept.refl (F : Act) (lo hi : Nat) : FrameKept F lo hi F := ⟨rfl, rfl, fun _ _ => rfl⟩
theorem FrameKept.put {F x : Act} {lo hi : Nat} (h : FrameKept F lo hi x) (t : Nat) (v : Value) (h1 : lo ≤ t) (h2 : t ≤ hi) : FrameKept F lo hi (x.put (some t) v) := by
  obtain ⟨h3, h4, h5⟩ := h
  refine ⟨h3, by simp [Act.put, h4], fun s hs => ?_⟩
  rw [← h5 s hs]
  simp only [Act.put]
  exact Array.getElem?_setIfInBounds_ne (by omega)
theorem FrameKept.get {F x : Act} {lo hi : Nat} (h : FrameKept F lo hi x) (s : Nat) (hs : s < lo ∨ hi < s) : x.tmps[s]?.getD undef = F.tmps[s]?.getD undef := by rw [h.2.2 s hs]
theorem put_here (x : Act) (t : Nat) (v : Value) (h : t < x.tmps.size) : (x.put (some t) v).tmps[t]?.getD undef = v := by simp [Act.put, h]
theorem put_there (x : Act) (t s : Nat) (v : Value) (h : t ≠ s) : (x.put (some t) v).tmps[s]?.getD undef = x.tmps[s]?.getD undef := by
  simp only [Act.put]
  rw [Array.getElem?_setIfInBounds_ne h]
def Left (n lo : Nat) (fact : Nat → Value → Prop) (L : Nat → Bool) (x : Act) : Prop := ∀ i, i < n → L i = true → fact i (x.tmps[lo + i]?.getD undef)
theorem Left.next {n lo : Nat} {fact fact' : Nat → Value → Prop} {L : Nat → Bool} {x : Act} (h : Left n lo fact L x) (i : Nat) (v : Value) (hs : lo + i < x.tmps.size)
    (hk : ∀ j u, j < n → L j = true → fact j u → fact' j u) (hv : fact' i v) : Left n lo fact' (fun j => if i = j then true else L j) (x.put (some (lo + i)) v) := by
  intro j hj hL
  by_cases hij : i = j
  · subst hij
    rw [put_here x (lo + i) v hs]
    exact hv
  · simp only [if_neg hij] at hL
    rw [put_there x (lo + i) (lo + j) v (by omega)]
    exact hk j _ hj hL (h j hj hL)
theorem cons_of {l : List Value} {n : Nat} (h : l.length = n + 1) : ∃ x t, l = x :: t ∧ t.length = n := by
  match l, h with
  | x :: t, h => exact ⟨x, t, rfl, by simpa using h⟩
theorem arr26 (a : Array Value) (h : a.size = 26) : ∃ x0 x1 x2 x3 x4 x5 x6 x7 x8 x9 x10 x11 x12 x13 x14 x15 x16 x17 x18 x19 x20 x21 x22 x23 x24 x25 : Value, a = #[x0, x1, x2, x3, x4, x5, x6, x7, x8, x9, x10, x11, x12, x13, x14, x15, x16, x17, x18, x19, x20, x21, x22, x23, x24, x25] := by
  obtain ⟨l⟩ := a
  have h : l.length = 26 := h
  obtain ⟨x0, t1, e1, h1⟩ := cons_of h
  obtain ⟨x1, t2, e2, h2⟩ := cons_of h1
  obtain ⟨x2, t3, e3, h3⟩ := cons_of h2
  obtain ⟨x3, t4, e4, h4⟩ := cons_of h3
  obtain ⟨x4, t5, e5, h5⟩ := cons_of h4
  obtain ⟨x5, t6, e6, h6⟩ := cons_of h5
  obtain ⟨x6, t7, e7, h7⟩ := cons_of h6
  obtain ⟨x7, t8, e8, h8⟩ := cons_of h7
  obtain ⟨x8, t9, e9, h9⟩ := cons_of h8
  obtain ⟨x9, t10, e10, h10⟩ := cons_of h9
  obtain ⟨x10, t11, e11, h11⟩ := cons_of h10
  obtain ⟨x11, t12, e12, h12⟩ := cons_of h11
  obtain ⟨x12, t13, e13, h13⟩ := cons_of h12
  obtain ⟨x13, t14, e14, h14⟩ := cons_of h13
  obtain ⟨x14, t15, e15, h15⟩ := cons_of h14
  obtain ⟨x15, t16, e16, h16⟩ := cons_of h15
  obtain ⟨x16, t17, e17, h17⟩ := cons_of h16
  obtain ⟨x17, t18, e18, h18⟩ := cons_of h17
  obtain ⟨x18, t19, e19, h19⟩ := cons_of h18
  obtain ⟨x19, t20, e20, h20⟩ := cons_of h19
  obtain ⟨x20, t21, e21, h21⟩ := cons_of h20
  obtain ⟨x21, t22, e22, h22⟩ := cons_of h21
  obtain ⟨x22, t23, e23, h23⟩ := cons_of h22
  obtain ⟨x23, t24, e24, h24⟩ := cons_of h23
  obtain ⟨x24, t25, e25, h25⟩ := cons_of h24
  obtain ⟨x25, t26, e26, h26⟩ := cons_of h25
  have e27 := List.eq_nil_of_length_eq_zero h26
  exact ⟨x0, x1, x2, x3, x4, x5, x6, x7, x8, x9, x10, x11, x12, x13, x14, x15, x16, x17, x18, x19, x20, x21, x22, x23, x24, x25, by rw [e1, e2, e3, e4, e5, e6, e7, e8, e9, e10, e11, e12, e13, e14, e15, e16, e17, e18, e19, e20, e21, e22, e23, e24, e25, e26, e27]⟩
theorem byte_info : (Tryz.prog.info? 5).map (fun i => (i.zero, i.size, i.bytes)) = some (some (.int .u8 0), 1, 1) := by kernel_rfl
def zeroB (n : Nat) : ByteArray := ⟨(List.replicate n 0).toArray⟩
theorem zeroB_list (n : Nat) : (zeroB n).data.toList = List.replicate n 0 := rfl
theorem zeroB_size (n : Nat) : (zeroB n).size = n := by show (List.replicate n (0 : UInt8)).toArray.size = n; simp
theorem zeros_make (w : World) (n : Nat) (h1 : n ≤ 70000) :
    (Instr.makeSlice 81 (.int .i64 n) (.int .i64 n)).run Tryz.prog w = .ok (.slice (some ⟨w.heap.size, 0, none⟩) n n) (w.alloc (.cells (Lib.byteCells (zeroB n).data.toList).toArray 5)) := by
  obtain ⟨i0, hi, hz0, hz1, hz2⟩ := info_parts byte_info
  have hr := run_makeSlice (P := Tryz.prog) w 81 5 i0 (.int .u8 0) Tryz.underlying81 hi hz0 .i64 .i64 n n (by omega) (Int.le_refl _) (by rw [hz1]; omega) (by rw [hz2]; omega) (by omega)
  have hc : madeCells (Value.int .u8 0).cells ((n : Int).toNat * i0.size) = (Lib.byteCells (zeroB n).data.toList).toArray := by
    rw [hz1, Nat.mul_one, zeroB_list]
    refine Array.toList_inj.1 ?_
    rw [show (Value.int .u8 0).cells = #[Value.int .u8 0] from rfl, toList_madeCells_one]
    simp [Lib.byteCells]
  rw [hc] at hr
  exact hr
theorem zeros_convert (w : World) (n : Nat) :
    (convert 81 9 (.slice (some ⟨w.heap.size, 0, none⟩) n n)).run Tryz.prog (w.alloc (.cells (Lib.byteCells (zeroB n).data.toList).toArray 5)) = .ok (.string (zeroB n)) (w.alloc (.cells (Lib.byteCells (zeroB n).data.toList).toArray 5)) := by
  have hl : (zeroB n).data.toList.length = n := by rw [zeroB_list, List.length_replicate]
  have hr := run_convert_bytes_back (P := Tryz.prog) (w.alloc (.cells (Lib.byteCells (zeroB n).data.toList).toArray 5)) 81 9 5 ⟨w.heap.size, 0, none⟩ (zeroB n).data.toList.length (zeroB n).data.toList Tryz.underlying81 Tryz.underlying5 Tryz.underlying9
    (fun j hj => by
      rw [Go.WideShapes.add_plain, (Blk.new w 5 (Lib.byteCells (zeroB n).data.toList).toArray).cell (0 + j)]
      simp [Lib.byteCells]
      exact ⟨(zeroB n).data[j]'(by simpa using hj), Array.getElem?_eq_getElem (by simpa using hj), rfl⟩)
  rw [hl] at hr
  exact hr
set_option maxHeartbeats 400000 in
theorem ref_zeros (n : Nat) (w : World) (h : n ≤ 70000) :
    Calls Tryz.prog 8 #[.int .i64 n] w fun e w' => e = .returned (.string (zeroB n)) ∧ Below w.heap.size w w' := by
  have hmk := zeros_make w n h
  have hcv := zeros_convert w n
  go_enter Tryz.func8, Tryz.ntmps8
  go_wp2_with fail
  go_ret
  exact ⟨rfl, (Below.refl _ _).alloc (Nat.le_refl _) _⟩
def sinkL (ops : Array Oper) (n : Nat) : Bool := (List.range n).all fun i => (List.range (n + 1)).any fun j => decide (i < j) && (waitsFor .any ops j).contains i
theorem sink_done {ops : Array Oper} {n : Nat} {L : Nat → Bool} (hs : sinkL ops n = true) (hc : ∀ i, L i = true → ∀ j ∈ waitsFor .any ops i, L j = true) (hn : L n = true) : ∀ i, i < n → L i = true := by
  have key : ∀ d i, i < n → n - i ≤ d → L i = true := by
    intro d
    induction d with
    | zero => intro i h1 h2; omega
    | succ d ih =>
      intro i h1 h2
      have h := List.all_eq_true.1 hs i (List.mem_range.2 h1)
      obtain ⟨j, hj, hw⟩ := List.any_eq_true.1 h
      simp only [Bool.and_eq_true, decide_eq_true_eq, List.contains_iff_mem] at hw
      have hj' : j < n + 1 := List.mem_range.1 hj
      refine hc j ?_ i hw.2
      by_cases e : j = n
      · rw [e]; exact hn
      · exact ih j (by omega) (by omega)
  exact fun i h => key (n - i) i h (Nat.le_refl _)
section
variable {P : Program} {ops : Array Oper} {Q : Exit → Act → World → Prop}
end
end Go.Proofs.YtiagofgcinlnhaaGreatDoor
