/-
  crc.Open, whatever is handed over.
-/
import Derived.Test.YtbaanoomilohhaaGreatDoorCrcSeal
import Derived.Test.YtbaanoomilohhaaGreatDoorKept
import Derived.Deep.DeepCutAuto
import Derived.Deep.RegionWith
namespace Go.Proofs.YtbaanoomilohhaaGreatDoor
open Go.RowKit

/-- What Open answers, as values. -/
def openV (l : List UInt8) : Value := .tuple #[.string ⟨(openB l).1.toArray⟩, .int .i64 (openB l).2]

set_option maxRecDepth 100000 in
set_option maxHeartbeats 1000000 in
theorem open_short (b : ByteArray) (w : World) (h : b.size < 4) :
    Calls Tryz.prog 53 #[.string b] w fun e w' => e = .returned (openV b.data.toList) ∧ w = w' := by
  have E : openV b.data.toList = .tuple #[.string .empty, .int .i64 5] := by unfold openV openB; rw [if_pos (by rw [← Lib.size_eq]; exact h)]; rfl
  rw [E]
  clear E
  go_enter Tryz.func53, Tryz.ntmps53
  go_wp2_with fail
  go_ret2
  exact ⟨rfl, rfl⟩


/-- A number's four bytes. -/
theorem num_four (T : ByteArray) (h : T.size = 4) : ((Rd.mk T 0).num 4).1 = (low T.data.toList : Int) := by
  have e : (Rd.mk T 0).take 4 = (T, true, ⟨.empty, 0⟩) := by
    unfold Rd.take
    rw [if_neg (by simp), if_neg (by omega), if_neg (by simp only []; omega)]
    have e1 : T.extract 0 (4 : Int).toNat = T := by
      have : (4 : Int).toNat = T.size := by rw [h]; rfl
      rw [this]
      exact ByteArray.extract_zero_size
    have e2 : T.extract (4 : Int).toNat T.size = .empty := by
      have : (4 : Int).toNat = T.size := by rw [h]; rfl
      rw [this]
      apply ByteArray.ext
      simp
    simp only [e1, e2]
  have hl := low_lt T.data.toList
  have hs : T.data.toList.length = 4 := by rw [← Lib.size_eq]; exact h
  rw [hs] at hl
  unfold Rd.num
  have e' : (Rd.mk T 0).take ((4 : Nat) : Int) = (T, true, ⟨.empty, 0⟩) := e
  rw [e', if_pos rfl, if_neg (by simp only []; omega)]

theorem cats_single (x : ByteArray) : cats [x] = x.data.toList := by simp [cats]
def apartB (a c : Nat) : Bool := ((a : Int) != (c : Int))
theorem openV_of {b H T : ByteArray} {k : Nat} (hk : b.size = k + 4) (hT : T = b.extract k b.size) (hH : H = b.extract 0 k) :
    openV b.data.toList = if low T.data.toList = crc H.data.toList then .tuple #[.string H, .int .i64 0] else .tuple #[.string .empty, .int .i64 7] := by
  have hl : b.data.toList.length = k + 4 := by rw [← Lib.size_eq]; exact hk
  have eT : T.data.toList = b.data.toList.drop k := by
    rw [hT, ByteArray.data_extract, Array.toList_extract, List.extract_eq_take_drop, List.take_of_length_le (by rw [List.length_drop, hl, hk]; exact Nat.le_refl _)]
  have eH : H.data.toList = b.data.toList.take k := by
    rw [hH, ByteArray.data_extract, Array.toList_extract, List.extract_eq_take_drop, List.drop_zero, Nat.sub_zero]
  unfold openV openB
  rw [if_neg (by omega), show b.data.toList.length - 4 = k by omega, ← eT, ← eH]
  split <;> rfl
theorem apartB_no {a c : Nat} (h : a = c) : apartB a c = false := by unfold apartB; rw [h]; simp
theorem apartB_yes {a c : Nat} (h : a ≠ c) : apartB a c = true := by unfold apartB; rw [bne_iff_ne]; omega

section
variable (b H T : ByteArray) (k : Nat) (w0 : World)
/-- What operation i of the region leaves in its slot. -/
def opFact (w : World) (L : Nat → Bool) (i : Nat) (v : Value) : Prop :=
  match i with
  | 0 | 5 => v = .string b
  | 1 | 6 => v = .int .i64 k
  | 2 => v = .string T
  | 3 => L 4 = false → ∃ g, v = .pointer (some ⟨g, 0, none⟩) ∧ w0.heap.size ≤ g ∧ InAt w g ⟨T, 0⟩
  | 4 => v = .int .i64 (low T.data.toList)
  | 7 => v = .string H
  | 8 => ∃ g, v = .slice (some ⟨g, 0, none⟩) 1 1 ∧ w0.heap.size ≤ g ∧ Blk w g 9 #[.string H]
  | 9 => v = .int .u32 (crc H.data.toList)
  | 10 => v = .int .i64 (crc H.data.toList)
  | _ => v = .bool (apartB (low T.data.toList) (crc H.data.toList))
theorem opFact_list {w : World} {L : Nat → Bool} {v : Value} (h : opFact b H T k w0 w L 8 v) : ∃ g, v = .slice (some ⟨g, 0, none⟩) 1 1 ∧ w0.heap.size ≤ g ∧ Blk w g 9 #[.string H] := by
  unfold opFact at h
  exact h
theorem opFact_below {w w' : World} {L L' : Nat → Bool} (hb : Below w.heap.size w w') (hL : L' 4 = false → L 4 = false) (i : Nat) (v : Value) (h : opFact b H T k w0 w L i v) : opFact b H T k w0 w' L' i v := by
  unfold opFact at *
  split at h <;> first
    | exact h
    | (intro h4; obtain ⟨g, e, h1, h2⟩ := h (hL h4); exact ⟨g, e, h1, h2.below hb (Blk.lt h2)⟩)
    | (obtain ⟨g, e, h1, h2⟩ := h; exact ⟨g, e, h1, h2.below hb h2.lt⟩)
/-- The reader reads on: of it nothing more is said. -/
theorem opFact_word {w w' : World} {L L' : Nat → Bool} {g : Nat} {s : Rd} (hg : w.grownBy w' (some g)) (hI : InAt w g s) (hL : L' 4 = true) (i : Nat) (v : Value) (h : opFact b H T k w0 w L i v) : opFact b H T k w0 w' L' i v := by
  unfold opFact at *
  split at h <;> first
    | exact h
    | (intro h4; rw [hL] at h4; cases h4)
    | (obtain ⟨g', e, h1, h2⟩ := h
       refine ⟨g', e, h1, h2.grown hg (fun e => ?_)⟩
       injection e with e
       subst e
       have := h2.symm.trans hI
       injection this with this
       injection this with _ this
       cases this)
/-- The frame ahead of the region. -/
def opF (b : ByteArray) (k : Nat) : Act :=
  ⟨#[.string b, undef, .string .empty, .int .i64 0, .int .i64 k, .string b, .int .i64 b.size, .int .i64 k, .int .i64 k, .bool (decide ((k : Int) < 0)), undef, undef, undef, undef, undef, undef, undef, undef, undef, undef, undef, undef, undef, undef, undef, undef], []⟩
def opInv (F : Act) (L : Nat → Bool) (x : Act) (w : World) : Prop := FrameKept F 10 21 x ∧ Left 12 10 (opFact b H T k w0 w L) L x ∧ Below w0.heap.size w0 w
theorem op_next {F : Act} {L : Nat → Bool} {x : Act} {w w' : World} (hF26 : F.tmps.size = 26) (i : Nat) (v : Value) (h : opInv b H T k w0 F L x w) (hi : i < 12) (h4 : i ≠ 4) (hb : Below w.heap.size w w')
    (hv : opFact b H T k w0 w' (fun j => if i = j then true else L j) i v) : opInv b H T k w0 F (fun j => if i = j then true else L j) (x.put (some (10 + i)) v) w' := by
  obtain ⟨h1, h2, h3⟩ := h
  refine ⟨h1.put _ v (by omega) (by omega), h2.next i v (by rw [h1.2.1, hF26]; omega) (fun j u _ _ hju => opFact_below b H T k w0 hb (fun hL => ?_) j u hju) hv, h3.trans (hb.mono h3.size)⟩
  simpa only [if_neg h4] using hL
theorem op_word {F : Act} {L : Nat → Bool} {x : Act} {w w' : World} {g : Nat} (hF26 : F.tmps.size = 26) (h : opInv b H T k w0 F L x w) (hI : InAt w g ⟨T, 0⟩) (hg0 : w0.heap.size ≤ g) (hg : w.grownBy w' (some g)) :
    opInv b H T k w0 F (fun j => if 4 = j then true else L j) (x.put (some (10 + 4)) (.int .i64 (low T.data.toList))) w' := by
  obtain ⟨h1, h2, h3⟩ := h
  refine ⟨h1.put _ _ (by omega) (by omega), h2.next 4 _ (by rw [h1.2.1, hF26]; omega) (fun j u _ _ hju => opFact_word b H T k w0 hg hI rfl j u hju) rfl, below_by_new h3 hg hg0⟩
end

set_option maxRecDepth 100000 in
set_option maxHeartbeats 4000000 in
theorem open_in (b : ByteArray) (k : Nat) (w : World) (hk : b.size = k + 4) (hb : b.size ≤ 140737488351232) :
    Calls Tryz.prog 53 #[.string b] w fun e w' => e = .returned (openV b.data.toList) ∧ Below w.heap.size w w' := by
  have hk1 : k + 4 ≤ b.size := by omega
  have hk2 : b.size ≤ k + 4 := by omega
  have HKB := Lib.hid hk
  clear hk
  obtain ⟨T, hT⟩ : ∃ T, T = b.extract k b.size := ⟨_, rfl⟩
  obtain ⟨H, hH⟩ : ∃ H, H = b.extract 0 k := ⟨_, rfl⟩
  have HT := Lib.hid hT
  have HH := Lib.hid hH
  have HT4 : Hid (T.size = 4) := Lib.hid (by rw [hT]; simp; omega)
  have HHs : Hid (H.size ≤ 140737488351232) := Lib.hid (by rw [hH]; simp; omega)
  clear hT hH
  go_enter Tryz.func53, Tryz.ntmps53
  go_upto_region 4 with fail
  rw [show (b.size : Int) - 4 = (k : Int) from by omega]
  refine wp_region_kept (opInv b H T k w (opF b k)) (by kernel_rfl) (by kernel_rfl) ?h0 ?hs ?hd
  case h0 => exact ⟨FrameKept.refl _ _ _, (fun _ _ h => by cases h), (Below.refl _ _).drew⟩
  case hd =>
    intro L x wi ⟨hF, hfact, hbi⟩ hall
    obtain ⟨t, d⟩ := x
    obtain ⟨x0, x1, x2, x3, x4, x5, x6, x7, x8, x9, x10, x11, x12, x13, x14, x15, x16, x17, x18, x19, x20, x21, x22, x23, x24, x25, rfl⟩ := arr26 t hF.2.1
    obtain rfl : d = [] := hF.1
    have e21 : x21 = .bool (apartB (low T.data.toList) (crc H.data.toList)) := hfact 11 (by omega) (hall 11 (show 11 < 12 by omega))
    subst e21
    obtain rfl : x0 = .string b := Option.some.inj (hF.2.2 0 (by omega))
    obtain rfl : x1 = undef := Option.some.inj (hF.2.2 1 (by omega))
    obtain rfl : x2 = .string .empty := Option.some.inj (hF.2.2 2 (by omega))
    obtain rfl : x3 = .int .i64 0 := Option.some.inj (hF.2.2 3 (by omega))
    obtain rfl : x4 = .int .i64 k := Option.some.inj (hF.2.2 4 (by omega))
    obtain rfl : x5 = .string b := Option.some.inj (hF.2.2 5 (by omega))
    obtain rfl : x6 = .int .i64 b.size := Option.some.inj (hF.2.2 6 (by omega))
    obtain rfl : x7 = .int .i64 k := Option.some.inj (hF.2.2 7 (by omega))
    obtain rfl : x8 = .int .i64 k := Option.some.inj (hF.2.2 8 (by omega))
    obtain rfl : x9 = .bool (decide ((k : Int) < 0)) := Option.some.inj (hF.2.2 9 (by omega))
    obtain rfl : x22 = undef := Option.some.inj (hF.2.2 22 (by omega))
    obtain rfl : x23 = undef := Option.some.inj (hF.2.2 23 (by omega))
    obtain rfl : x24 = undef := Option.some.inj (hF.2.2 24 (by omega))
    obtain rfl : x25 = undef := Option.some.inj (hF.2.2 25 (by omega))
    clear hF hfact hall
    have HV := Lib.hid (openV_of HKB.out HT.out HH.out)
    by_cases he : low T.data.toList = crc H.data.toList
    · have HE := Lib.hid he
      rw [apartB_no he]
      clear he
      have hx2 : b.extract 0 k = H := HH.out.symm
      go_wp2_with (go_at_call 51; refine (clone_any H _ (by have := HHs.out; omega)).mono ?_; rintro e w1 ⟨rfl, hb1⟩)
      go_ret2
      exact ⟨by rw [HV.out, if_pos HE.out]; rfl, hbi.trans (hb1.mono hbi.size)⟩
    · have HE := Lib.hid he
      rw [apartB_yes he]
      clear he
      go_wp2_with fail
      go_ret2
      exact ⟨by rw [HV.out, if_neg HE.out]; rfl, hbi⟩
  case hs =>
    intro L x wi i hI hi hL hw
    have hi : i < 12 := hi
    obtain ⟨hF, hfact, hbi⟩ := id hI
    rcases (show i = 0 ∨ i = 1 ∨ i = 2 ∨ i = 3 ∨ i = 4 ∨ i = 5 ∨ i = 6 ∨ i = 7 ∨ i = 8 ∨ i = 9 ∨ i = 10 ∨ i = 11 by omega) with rfl | rfl | rfl | rfl | rfl | rfl | rfl | rfl | rfl | rfl | rfl | rfl
    · have e0 : x.tmps[0]?.getD undef = .string b := hF.get 0 (by omega)
      have HK := Lib.hid (op_next b H T k w (F := opF b k) (L := L) (x := x) (w := wi) (w' := wi) rfl 0 (.string b) hI hi (by omega) (Below.refl _ _) rfl)
      clear hI hF hfact hbi hw hL hi
      refine wpOp_value (v := (.string b)) (w' := wi) rfl rfl ?_ HK.out
      go_simp
    · have e4 : x.tmps[4]?.getD undef = .int .i64 k := hF.get 4 (by omega)
      have HK := Lib.hid (op_next b H T k w (F := opF b k) (L := L) (x := x) (w := wi) (w' := wi) rfl 1 (.int .i64 k) hI hi (by omega) (Below.refl _ _) rfl)
      clear hI hF hfact hbi hw hL hi
      refine wpOp_value (v := (.int .i64 k)) (w' := wi) rfl rfl ?_ HK.out
      go_simp
    · have e1 : x.tmps[10]?.getD undef = .string b := (hfact 0 (by omega) (hw 0 (of_decide_eq_true (by kernel_rfl))))
      have e2 : x.tmps[11]?.getD undef = .int .i64 k := (hfact 1 (by omega) (hw 1 (of_decide_eq_true (by kernel_rfl))))
      have ex : b.extract k b.size = T := HT.out.symm
      have HK := Lib.hid (op_next b H T k w (F := opF b k) (L := L) (x := x) (w := wi) (w' := wi) rfl 2 (.string T) hI hi (by omega) (Below.refl _ _) rfl)
      clear hI hF hfact hbi hw hL hi
      refine wpOp_value (v := (.string T)) (w' := wi) rfl rfl ?_ HK.out
      go_simp
      intro hlt
      omega
    · have e1 : x.tmps[12]?.getD undef = .string T := (hfact 2 (by omega) (hw 2 (of_decide_eq_true (by kernel_rfl))))
      have HC := Lib.hid ((on_any T wi (by have := HT4.out; omega)).mono (fun e w'' ⟨g, he, hg, h1, h2⟩ => show ∃ v, e = Ending.returned v ∧ opInv b H T k w (opF b k) (fun j => if 3 = j then true else L j) (x.put (some (10 + 3)) v) w'' from
        ⟨_, he, op_next b H T k w (F := opF b k) rfl 3 _ hI hi (by omega) h2 (fun _ => ⟨g, rfl, Nat.le_trans hbi.size hg, h1⟩)⟩))
      clear hI hF hfact hbi hw hL hi
      refine wpOp_call rfl rfl ?_ HC.out
      go_simp
    · obtain ⟨g, e1, hg0, hin⟩ : ∃ g, x.tmps[13]?.getD undef = .pointer (some ⟨g, 0, none⟩) ∧ w.heap.size ≤ g ∧ InAt wi g ⟨T, 0⟩ := (hfact 3 (by omega) (hw 3 (of_decide_eq_true (by kernel_rfl)))) hL
      have HC := Lib.hid ((in_word g ⟨T, 0⟩ wi hin (by have := HT4.out; simp only []; omega)).mono (fun e w'' ⟨he, h1, h2⟩ => show ∃ v, e = Ending.returned v ∧ opInv b H T k w (opF b k) (fun j => if 4 = j then true else L j) (x.put (some (10 + 4)) v) w'' from
        ⟨_, he.trans (by rw [num_four T HT4.out]), op_word b H T k w (F := opF b k) rfl hI hin hg0 h2⟩))
      clear hI hF hfact hbi hw hL hi hin
      refine wpOp_call rfl rfl ?_ HC.out
      go_simp
    · have e0 : x.tmps[0]?.getD undef = .string b := hF.get 0 (by omega)
      have HK := Lib.hid (op_next b H T k w (F := opF b k) (L := L) (x := x) (w := wi) (w' := wi) rfl 5 (.string b) hI hi (by omega) (Below.refl _ _) rfl)
      clear hI hF hfact hbi hw hL hi
      refine wpOp_value (v := (.string b)) (w' := wi) rfl rfl ?_ HK.out
      go_simp
    · have e4 : x.tmps[4]?.getD undef = .int .i64 k := hF.get 4 (by omega)
      have HK := Lib.hid (op_next b H T k w (F := opF b k) (L := L) (x := x) (w := wi) (w' := wi) rfl 6 (.int .i64 k) hI hi (by omega) (Below.refl _ _) rfl)
      clear hI hF hfact hbi hw hL hi
      refine wpOp_value (v := (.int .i64 k)) (w' := wi) rfl rfl ?_ HK.out
      go_simp
    · have e1 : x.tmps[15]?.getD undef = .string b := (hfact 5 (by omega) (hw 5 (of_decide_eq_true (by kernel_rfl))))
      have e2 : x.tmps[16]?.getD undef = .int .i64 k := (hfact 6 (by omega) (hw 6 (of_decide_eq_true (by kernel_rfl))))
      have ex : b.extract 0 k = H := HH.out.symm
      have HK := Lib.hid (op_next b H T k w (F := opF b k) (L := L) (x := x) (w := wi) (w' := wi) rfl 7 (.string H) hI hi (by omega) (Below.refl _ _) rfl)
      clear hI hF hfact hbi hw hL hi
      refine wpOp_value (v := (.string H)) (w' := wi) rfl rfl ?_ HK.out
      go_simp
      intro hlt
      omega
    · have e1 : x.tmps[17]?.getD undef = .string H := (hfact 7 (by omega) (hw 7 (of_decide_eq_true (by kernel_rfl))))
      have HK := Lib.hid (op_next b H T k w (F := opF b k) (L := L) (x := x) (w := wi) (w' := wi.alloc (.cells #[.string H] 9)) rfl 8 (.slice (some ⟨wi.heap.size, 0, none⟩) 1 1) hI hi (by omega) ((Below.refl _ _).alloc (Nat.le_refl _) _) ⟨_, rfl, hbi.size, Blk.new _ _ _⟩)
      clear hI hF hfact hbi hw hL hi
      refine wpOp_value (v := (.slice (some ⟨wi.heap.size, 0, none⟩) 1 1)) (w' := wi.alloc (.cells #[.string H] 9)) rfl rfl ?_ HK.out
      go_simp
    · obtain ⟨g, e1, hg0, hin⟩ : ∃ g, x.tmps[18]?.getD undef = .slice (some ⟨g, 0, none⟩) 1 1 ∧ w.heap.size ≤ g ∧ Blk wi g 9 #[.string H] := opFact_list b H T k w (hfact 8 (by omega) (hw 8 (of_decide_eq_true (by kernel_rfl))))
      have HC := Lib.hid ((of_any (some ⟨g, 0, none⟩) 1 1 [H] wi rfl (fun _ => ⟨g, 0, rfl, hin.lt, fun j y hy => by rw [hin.cell (0 + j)]; match j, hy with | 0, hy => (injection hy with hy; rw [← hy]; rfl)⟩) (by simp) (fun y hy => by rw [List.mem_singleton.1 hy]; exact HHs.out)).mono (fun e w'' ⟨he, h2⟩ => show ∃ v, e = Ending.returned v ∧ opInv b H T k w (opF b k) (fun j => if 9 = j then true else L j) (x.put (some (10 + 9)) v) w'' from
        ⟨_, he.trans (by rw [cats_single]), by subst h2; exact op_next b H T k w (F := opF b k) rfl 9 _ hI hi (by omega) (Below.refl _ _) rfl⟩))
      clear hI hF hfact hbi hw hL hi hin
      refine wpOp_call rfl rfl ?_ HC.out
      go_simp
    · have e1 : x.tmps[19]?.getD undef = .int .u32 (crc H.data.toList) := (hfact 9 (by omega) (hw 9 (of_decide_eq_true (by kernel_rfl))))
      have hcl := crc_lt H.data.toList
      have HK := Lib.hid (op_next b H T k w (F := opF b k) (L := L) (x := x) (w := wi) (w' := wi) rfl 10 (.int .i64 (crc H.data.toList)) hI hi (by omega) (Below.refl _ _) rfl)
      clear hI hF hfact hbi hw hL hi
      refine wpOp_value (v := (.int .i64 (crc H.data.toList))) (w' := wi) rfl rfl ?_ HK.out
      go_simp
      exact IntWalk.i64_in _ (by omega)
    · have e1 : x.tmps[14]?.getD undef = .int .i64 (low T.data.toList) := (hfact 4 (by omega) (hw 4 (of_decide_eq_true (by kernel_rfl))))
      have e2 : x.tmps[20]?.getD undef = .int .i64 (crc H.data.toList) := (hfact 10 (by omega) (hw 10 (of_decide_eq_true (by kernel_rfl))))
      have HK := Lib.hid (op_next b H T k w (F := opF b k) (L := L) (x := x) (w := wi) (w' := wi) rfl 11 (.bool (apartB (low T.data.toList) (crc H.data.toList))) hI hi (by omega) (Below.refl _ _) rfl)
      clear hI hF hfact hbi hw hL hi
      refine wpOp_value (v := (.bool (apartB (low T.data.toList) (crc H.data.toList)))) (w' := wi) rfl rfl ?_ HK.out
      go_simp
      rfl

theorem open_any (b : ByteArray) (w : World) (hb : b.size ≤ 140737488351232) :
    Calls Tryz.prog 53 #[.string b] w fun e w' => e = .returned (openV b.data.toList) ∧ Below w.heap.size w w' := by
  by_cases h : b.size < 4
  · exact (open_short b w h).mono fun e w' ⟨he, hw⟩ => ⟨he, hw ▸ Below.refl _ _⟩
  · exact open_in b (b.size - 4) w (by omega) hb
end Go.Proofs.YtbaanoomilohhaaGreatDoor