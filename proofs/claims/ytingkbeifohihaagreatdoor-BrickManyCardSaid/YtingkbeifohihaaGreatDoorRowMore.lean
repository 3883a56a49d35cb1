/-
  Rows of one's own, whatever lies in them: where they are, what stays of them. No statement is proved here.
-/
import Derived.Test.YtingkbeifohihaaGreatDoorRoomSmall
import Derived.StillTailTactics
import Derived.Deep.DeepCutAuto
import Derived.Deep.CutBlock
import Derived.Test.YtingkbeifohihaaGreatDoorMarkSmall
import Derived.Test.YtingkbeifohihaaGreatDoorOneMix
namespace Go.Proofs.YtingkbeifohihaaGreatDoor
open Go.RowKit
set_option maxRecDepth 100000
set_option maxHeartbeats 2000000
theorem Jo (j : Nat) (h : j < 8) : 2 ^ j < 256 := by
 rcases yO h with rfl | rfl | rfl | rfl | rfl | rfl | rfl | rfl <;> decide
theorem i8 (i : Nat) : i / 8 * 8 + i % 8 = i := by omega
structure bA (w w' : World) (g n : Nat) (H : List Int) : Prop where
 room : aU w' g n H
 by_ : w.grownBy w' (some g)
theorem aU.set {w : World} {g n : Nat} {H : List Int} (h : aU w g n H) {i : Nat} (hi : i < n) {b : Nat} (hb : b = cV (jS H) (i / 8) ||| 2 ^ (i % 8)) : bA w (w.setCell ⟨g, 1 + i / 8, none⟩ (.int .u8 (b : Int))) g n (mD (i : Int) H) := by
 refine ⟨⟨?_, h.ok.put (by omega) (by omega), h.size⟩, jK (aC _ _) _ _⟩
 have := h.blk.put (1 + i / 8) (.int .u8 (b : Int))
 rw [Bt n (jS H) (k := i / 8) (j := i % 8) (by omega) true b (by rw [hb]; exact Pc _ _ _ (by omega)), i8, <- Xq] at this
 exact this
theorem aU.clear {w : World} {g n : Nat} {H : List Int} (h : aU w g n H) {i : Nat} {b : Nat} (hb : b = cV (jS H) (i / 8) &&& (255 - 2 ^ (i % 8))) : bA w (w.setCell ⟨g, 1 + i / 8, none⟩ (.int .u8 (b : Int))) g n (fW (i : Int) H) := by
 refine ⟨⟨?_, h.ok.drop _, h.size⟩, jK (aC _ _) _ _⟩
 have := h.blk.put (1 + i / 8) (.int .u8 (b : Int))
 rw [Bt n (jS H) (k := i / 8) (j := i % 8) (by omega) false b (by rw [hb]; exact Gf _ _ _ (by omega)), i8, <- Ug] at this
 exact this
theorem Gd (i : Nat) {w : World} {g n : Nat} {H : List Int} (h : aU w g n H) (hi : i < n) : Calls Tryz.prog 95 #[.pointer (some ⟨g, 0, none⟩), .int .i64 (i : Int)] w fun e w' => e = .returned (.tuple #[]) /\ bA w w' g n (mD (i : Int) H) := by
 have hs := h.size
 have HB := Lib.hid (Dg i (by omega))
 obtain ⟨k, hk⟩ : ∃ k, k = i / 8 := ⟨_, rfl⟩
 obtain ⟨x, hx⟩ : ∃ x, x = cV (jS H) (i / 8) := ⟨_, rfl⟩
 obtain ⟨y, hy⟩ : ∃ y, y = 2 ^ (i % 8) := ⟨_, rfl⟩
 obtain ⟨z, hz⟩ : ∃ z, z = x ||| y := ⟨_, rfl⟩
 have hk8 : k < 238 := by omega
 have hq' : (i : Int) / 8 = (k : Int) := by omega
 have hq : (i : Int).tdiv 8 = (k : Int) := by rw [Int.tdiv_eq_ediv_of_nonneg (by omega)]; exact hq'
 have hkI : (k : Int) < 238 := by omega
 have hkw : IntKind.i64.wrap (k : Int) = (k : Int) := by rw [IntKind.wrap_i64]; omega
 have hor : bits .or .u8 (x : Int) (y : Int) = (z : Int) := by
  rw [hz]
  exact u8_or_nat x y (by rw [hx]; exact oX _ _) (by rw [hy]; exact Jo _ (by omega))
 have c1 : w.cell? ⟨g, 1 + k, none⟩ = some (.int .u8 (x : Int)) := by rw [hx, <- hk]; exact h.byte hk8
 have f1 : w.frozen? ⟨g, 1 + k, none⟩ = false := h.blk.frozen _
 have hgl := h.lt
 rw [<- hy] at HB
 have HT := Lib.hid (h.set hi (b := z) (by rw [hz, hx, hy]))
 rw [<- hk] at HT
 have HW : Hid (∀ W, Calls Tryz.prog 142 #[.int .i64 (i : Int)] W fun e w' => e = .returned (.int .u8 (y : Int)) /\ w' = W) := HB
 clear hz hy hx h hk hi hs
 go_enter Tryz.func95, Tryz.ntmps95
 go_still_tail 13, (by kernel_rfl)
 still_call (HW.out _)
 repeat still_step
 refine wpStill_nil ?_
 change wpList _ _ _ _ _ w.drew
 go_wp2_with fail
 refine xC rfl rfl ⟨rfl, ⟨HT.out.room.blk.drew, HT.out.room.ok, HT.out.room.size⟩, ?_⟩
 exact ⟨HT.out.by_.1, HT.out.by_.2, HT.out.by_.3, HT.out.by_.4, HT.out.by_.5⟩
theorem Pa (b : Bool) (j : Nat) (hj : j < 8) : (((oA b (2 ^ j) : Nat) : Int) != 0) = b := by
 cases b
 ·rfl
 ·rcases yO hj with rfl | rfl | rfl | rfl | rfl | rfl | rfl | rfl <;> rfl
theorem tP (i : Int) {w : World} {g n : Nat} {H : List Int} (h : aU w g n H) : Calls Tryz.prog 120 #[.pointer (some ⟨g, 0, none⟩), .int .i64 i] w fun e w' => e = .returned (.bool (decide (i ∈ H))) /\ ∃ d, w' = w.drewN d := by
 have HH := Lib.hid (fun d => yN i (h.drewN d))
 have hs := h.size
 by_cases hin : 0 <= i /\ i < (n : Int)
 ·simp only [decide_eq_true hin] at HH
  obtain ⟨h0, h1⟩ := hin
  obtain ⟨a, rfl⟩ := Int.eq_ofNat_of_zero_le h0
  have HB := Lib.hid (Dg a (by omega))
  obtain ⟨k, hk⟩ : ∃ k, k = a / 8 := ⟨_, rfl⟩
  obtain ⟨x, hx⟩ : ∃ x, x = cV (jS H) (a / 8) := ⟨_, rfl⟩
  obtain ⟨y, hy⟩ : ∃ y, y = 2 ^ (a % 8) := ⟨_, rfl⟩
  have hk8 : k < 238 := by omega
  have hq' : (a : Int) / 8 = (k : Int) := by omega
  have hq : (a : Int).tdiv 8 = (k : Int) := by rw [Int.tdiv_eq_ediv_of_nonneg (by omega)]; exact hq'
  have hkI : (k : Int) < 238 := by omega
  have hkw : IntKind.i64.wrap (k : Int) = (k : Int) := by rw [IntKind.wrap_i64]; omega
  obtain ⟨r, hr⟩ : ∃ r, r = decide ((a : Int) ∈ H) := ⟨_, rfl⟩
  obtain ⟨z, hz⟩ : ∃ z, z = x &&& y := ⟨_, rfl⟩
  have hand : bits .and .u8 (x : Int) (y : Int) = (z : Int) := by
   rw [hz]
   exact u8_and_nat x y (by rw [hx]; exact oX _ _) (by rw [hy]; exact Jo _ (by omega))
  have hzr : ((z : Int) != 0) = r := by
   rw [hz, hx, hy, Pd _ _ _ (by omega), i8, Pa _ _ (by omega), hr]
   rfl
  have c1 : w.cell? ⟨g, 1 + k, none⟩ = some (.int .u8 (x : Int)) := by rw [hx, <- hk]; exact h.byte hk8
  have hgl := h.lt
  rw [<- hy] at HB
  rw [<- hr]
  have HW : Hid (∀ W, Calls Tryz.prog 142 #[.int .i64 (a : Int)] W fun e w' => e = .returned (.int .u8 (y : Int)) /\ w' = W) := HB
  have HH' : Hid (∀ d : Nat, Calls Tryz.prog 94 #[.pointer (some ⟨g, 0, none⟩), .int .i64 (a : Int)] (w.drewN d) fun e w' => e = .returned (.bool true) /\ w' = w.drewN d) := HH
  clear hz hy hx h hk hs h0 h1 hr HH HB
  go_enter Tryz.func120, Tryz.ntmps120
  go_wp2_with fail
  go_quiet (first | (go_at_call 142; with_reducible refine Calls.quiet_of_same (HW.out _)) | (go_at_call 94; with_reducible refine Calls.quiet_of_same (HH'.out _)))
  go_wp2_with fail
  go_ret
  exact ⟨rfl, _, rfl⟩
 ·simp only [decide_eq_false hin] at HH
  have e : decide (i ∈ H) = false := decide_eq_false fun hm => hin (h.ok.range i hm)
  rw [e]
  clear e hin h hs
  go_enter Tryz.func120, Tryz.ntmps120
  go_wp2_with fail
  go_quiet (first | (go_at_call 94; with_reducible refine Calls.quiet_of_same (HH.out _)))
  go_wp2_with fail
  go_ret
  exact ⟨rfl, _, rfl⟩
set_option maxRecDepth 100000
def AZ : ByteArray := ⟨#[8, 0, 1, 0, 2, 0, 1, 0, 3, 0, 1, 0, 2, 0, 1, 0, 4, 0, 1, 0, 2, 0, 1, 0, 3, 0, 1, 0, 2, 0, 1, 0, 5, 0, 1, 0, 2, 0, 1, 0, 3, 0, 1, 0, 2, 0, 1, 0, 4, 0, 1, 0, 2, 0, 1, 0, 3, 0, 1, 0, 2, 0, 1, 0, 6, 0, 1, 0, 2, 0, 1, 0, 3, 0, 1, 0, 2, 0, 1, 0, 4, 0, 1, 0, 2, 0, 1, 0, 3, 0, 1, 0, 2, 0, 1, 0, 5, 0, 1, 0, 2, 0, 1, 0, 3, 0, 1, 0, 2, 0, 1, 0, 4, 0, 1, 0, 2, 0, 1, 0, 3, 0, 1, 0, 2, 0, 1, 0, 7, 0, 1, 0, 2, 0, 1, 0, 3, 0, 1, 0, 2, 0, 1, 0, 4, 0, 1, 0, 2, 0, 1, 0, 3, 0, 1, 0, 2, 0, 1, 0, 5, 0, 1, 0, 2, 0, 1, 0, 3, 0, 1, 0, 2, 0, 1, 0, 4, 0, 1, 0, 2, 0, 1, 0, 3, 0, 1, 0, 2, 0, 1, 0, 6, 0, 1, 0, 2, 0, 1, 0, 3, 0, 1, 0, 2, 0, 1, 0, 4, 0, 1, 0, 2, 0, 1, 0, 3, 0, 1, 0, 2, 0, 1, 0, 5, 0, 1, 0, 2, 0, 1, 0, 3, 0, 1, 0, 2, 0, 1, 0, 4, 0, 1, 0, 2, 0, 1, 0, 3, 0, 1, 0, 2, 0, 1, 0]⟩
def Zq : ByteArray := ⟨#[0, 1, 1, 2, 1, 2, 2, 3, 1, 2, 2, 3, 2, 3, 3, 4, 1, 2, 2, 3, 2, 3, 3, 4, 2, 3, 3, 4, 3, 4, 4, 5, 1, 2, 2, 3, 2, 3, 3, 4, 2, 3, 3, 4, 3, 4, 4, 5, 2, 3, 3, 4, 3, 4, 4, 5, 3, 4, 4, 5, 4, 5, 5, 6, 1, 2, 2, 3, 2, 3, 3, 4, 2, 3, 3, 4, 3, 4, 4, 5, 2, 3, 3, 4, 3, 4, 4, 5, 3, 4, 4, 5, 4, 5, 5, 6, 2, 3, 3, 4, 3, 4, 4, 5, 3, 4, 4, 5, 4, 5, 5, 6, 3, 4, 4, 5, 4, 5, 5, 6, 4, 5, 5, 6, 5, 6, 6, 7, 1, 2, 2, 3, 2, 3, 3, 4, 2, 3, 3, 4, 3, 4, 4, 5, 2, 3, 3, 4, 3, 4, 4, 5, 3, 4, 4, 5, 4, 5, 5, 6, 2, 3, 3, 4, 3, 4, 4, 5, 3, 4, 4, 5, 4, 5, 5, 6, 3, 4, 4, 5, 4, 5, 5, 6, 4, 5, 5, 6, 5, 6, 6, 7, 2, 3, 3, 4, 3, 4, 4, 5, 3, 4, 4, 5, 4, 5, 5, 6, 3, 4, 4, 5, 4, 5, 5, 6, 4, 5, 5, 6, 5, 6, 6, 7, 3, 4, 4, 5, 4, 5, 5, 6, 4, 5, 5, 6, 5, 6, 6, 7, 4, 5, 5, 6, 5, 6, 6, 7, 5, 6, 6, 7, 6, 7, 7, 8]⟩
theorem Ud (b0 b1 b2 b3 b4 b5 b6 b7 : Bool) : AZ[255 ^^^ lF b0 b1 b2 b3 b4 b5 b6 b7]? = some (AM (!b0) (!b1) (!b2) (!b3) (!b4) (!b5) (!b6) (!b7)).toUInt8 := by revert b0 b1 b2 b3 b4 b5 b6 b7; decide +kernel
theorem Oy (b0 b1 b2 b3 b4 b5 b6 b7 : Bool) : Zq[lF b0 b1 b2 b3 b4 b5 b6 b7]? = some (b0.toNat + b1.toNat + b2.toNat + b3.toNat + b4.toNat + b5.toNat + b6.toNat + b7.toNat).toUInt8 := by revert b0 b1 b2 b3 b4 b5 b6 b7; decide +kernel
theorem Oz (P : Nat -> Bool) (k : Nat) : mC P k <= 8 := by
 have : ∀ b0 b1 b2 b3 b4 b5 b6 b7 : Bool, b0.toNat + b1.toNat + b2.toNat + b3.toNat + b4.toNat + b5.toNat + b6.toNat + b7.toNat <= 8 := by decide +kernel
 exact this _ _ _ _ _ _ _ _
theorem yK (w : World) (s : ByteArray) (j : Nat) (x : UInt8) (h : s[j]? = some x) : (Instr.index 9 (.string s) (.int .u8 (j : Int))).run Tryz.prog w = .ok (.int .u8 (x.toNat : Int)) w := by
 simp [Instr.index, asIntOf, Sem.run_bind, run_underlying Tryz.underlying9, Result.andThen, h]
theorem vB (w : World) (cs : Array Value) (j : Nat) (x : Int) (hj : j < 238) (h : cs[j]? = some (.int .u8 x)) : (Instr.index 93 (.agg cs) (.int .i64 (j : Int))).run Tryz.prog w = .ok (.int .u8 x) w := by
 have hI : ¬ 238 <= j := by omega
 simp [Instr.index, asIntOf, Sem.run_bind, run_underlying Tryz.underlying93, Result.andThen, h, hI, go_sem]
theorem nO {P : Program} {a : Act} {w : World} {o : Oper} {ty : TypeId} {x y : Operand} {p q v : Value} (ho : o.op = .index ty x y) (hx : a.eval x = p) (hy : a.eval y = q) (hr : (Instr.index ty p q).run P w = .ok v w) : (execOp a.eval o).run P w = .ok (.value v) w := by
 subst hx
 subst hy
 cases o
 simp only at ho
 subst ho
 show Sem.run P (Instr.index ty (a.eval x) (a.eval y) >>= fun r => pure (Next.value r)) w = _
 rw [Sem.run_bind, hr]
 rfl
theorem Zr (P : Nat -> Bool) (k : Nat) (w : World) : Calls Tryz.prog 124 #[.int .u8 ((255 ^^^ cV P k : Nat) : Int)] w fun e w' => e = .returned (.int .i64 (dK P k : Int)) /\ w' = w := by
 obtain ⟨x, hx⟩ : ∃ x, x = 255 ^^^ cV P k := ⟨_, rfl⟩
 obtain ⟨y, hy⟩ : ∃ y, y = dK P k := ⟨_, rfl⟩
 have hle := mT P k
 rw [<- hy] at hle
 have HI : Hid (∀ w, (Instr.index 9 (.string AZ) (.int .u8 (x : Int))).run Tryz.prog w = .ok (.int .u8 (y : Int)) w) := Lib.hid (fun w => by
  have := yK w AZ x _ (by rw [hx]; exact Ud _ _ _ _ _ _ _ _)
  rw [this]
  congr 2
  show ((dK P k).toUInt8.toNat : Int) = _
  rw [hy, UInt8.toNat_ofNat', Nat.mod_eq_of_lt (by omega)])
 rw [<- hx, <- hy]
 clear hx hy
 go_enter Tryz.func124, Tryz.ntmps124
 go_upto_region 1 with fail
 refine wp_region_lit ?_
 refine aK (v := .int .u8 (x : Int)) rfl rfl ?_
 refine aK rfl (nO rfl rfl rfl (HI.out _)) ?_
 go_wp2_with fail
 go_ret
 exact ⟨rfl, rfl⟩
theorem Xn (P : Nat -> Bool) (k : Nat) (w : World) : Calls Tryz.prog 43 #[.int .u8 (cV P k : Int)] w fun e w' => e = .returned (.int .i64 (mC P k : Int)) /\ w' = w := by
 obtain ⟨x, hx⟩ : ∃ x, x = cV P k := ⟨_, rfl⟩
 obtain ⟨y, hy⟩ : ∃ y, y = mC P k := ⟨_, rfl⟩
 have hle := Oz P k
 rw [<- hy] at hle
 have HI : Hid (∀ w, (Instr.index 9 (.string Zq) (.int .u8 (x : Int))).run Tryz.prog w = .ok (.int .u8 (y : Int)) w) := Lib.hid (fun w => by
  have := yK w Zq x _ (by rw [hx]; exact Oy _ _ _ _ _ _ _ _)
  rw [this]
  congr 2
  show ((mC P k).toUInt8.toNat : Int) = _
  rw [hy, UInt8.toNat_ofNat', Nat.mod_eq_of_lt (by omega)])
 rw [<- hx, <- hy]
 clear hx hy
 go_enter Tryz.func43, Tryz.ntmps43
 go_upto_region 1 with fail
 refine wp_region_lit ?_
 refine aK (v := .int .u8 (x : Int)) rfl rfl ?_
 refine aK rfl (nO rfl rfl rfl (HI.out _)) ?_
 go_wp2_with fail
 go_ret
 exact ⟨rfl, rfl⟩
set_option maxRecDepth 100000
set_option maxHeartbeats 4000000
def qW (P : Nat -> Bool) : Array Value := ((List.range 238).map fun k => Value.int .u8 (cV P k : Int)).toArray
theorem qX (P : Nat -> Bool) {k : Nat} (hk : k < 238) : (qW P)[k]? = some (.int .u8 (cV P k : Int)) := by
 unfold qW
 rw [List.getElem?_toArray, List.getElem?_map, List.getElem?_range hk]
 rfl
theorem uZ (P : Nat -> Bool) : (qW P).size = 238 := by simp [qW]
theorem Ou (w : World) : (isAgg 93).run Tryz.prog w = .ok true w := by kernel_rfl
theorem Jn (w : World) : (sizeOf 93).run Tryz.prog w = .ok 238 w := by kernel_rfl
theorem aU.load {w : World} {g n : Nat} {H : List Int} (h : aU w g n H) : (Instr.loadAt 93 (.pointer (some ⟨g, 1, none⟩))).run Tryz.prog w = .ok (.agg (qW (jS H))) w :=
 fA h.blk (fun j v hv => by
  have hj : j < 238 := by
   rcases Nat.lt_or_ge j 238 with h' | h'
   ·exact h'
   ·rw [Array.getElem?_eq_none (by rw [uZ]; exact h')] at hv; cases hv
  rw [qX _ hj] at hv
  rw [yM _ _ hj]
  exact hv) Ou (fun w => by rw [uZ]; exact Jn w)
theorem Ov {w : World} {g n : Nat} {H : List Int} (h : aU w g n H) : Calls Tryz.prog 22 #[.pointer (some ⟨g, 0, none⟩)] w fun e w' => e = .returned (.int .i64 ((n : Int) - (H.length : Int))) /\ w' = w := by
 have c0 := h.zero
 have hs := h.size
 have HO : Hid (∀ k, jO (jS H) k <= k * 8) := Lib.hid (fun k => by
  rw [nP]
  refine Nat.le_trans (List.length_filter_le _ _) ?_
  rw [List.length_range]
  exact Nat.le_refl _)
 have HP : Hid (jO (jS H) 238 = H.length) := Lib.hid (Pg h.ok (by omega))
 have HF := Lib.hid h.ok.few
 obtain ⟨P, hP⟩ : ∃ P, P = jS H := ⟨_, rfl⟩
 have HL := Lib.hid h.load
 rw [<- hP] at HL HP HO
 obtain ⟨C, hC⟩ : ∃ C, C = qW P := ⟨_, rfl⟩
 rw [<- hC] at HL
 have HIX : Hid (∀ (w : World) (j : Nat), j < 238 -> (Instr.index 93 (.agg C) (.int .i64 (j : Int))).run Tryz.prog w = .ok (.int .u8 (cV P j : Int)) w) := Lib.hid (fun w j hj => vB w C j _ hj (by rw [hC]; exact qX P hj))
 have HC : Hid (∀ (j : Nat) (w : World), Calls Tryz.prog 43 #[.int .u8 (cV P j : Int)] w fun e w' => e = .returned (.int .i64 (mC P j : Int)) /\ w' = w) := Lib.hid (fun j w => Xn P j w)
 have hgl := h.lt
 clear h hP hC
 go_enter Tryz.func22, Tryz.ntmps22
 go_upto_region 4 with fail
 refine wp_region_lit ?_
 refine aK (v := .pointer (some ⟨g, 0, none⟩)) rfl rfl ?_
 refine aK (v := .pointer (some ⟨g, 0, none⟩)) rfl rfl ?_
 refine aK (v := .pointer (some ⟨g, 1, none⟩)) rfl rfl ?_
 refine cZ rfl rfl rfl HL.out ?_
 go_wp2_with fail
 go_loopw [3, 16] (fun nv i wr => ∃ (j : Nat), j <= 238 /\ i = .int .i64 j /\ nv = .int .i64 ((n : Int) - (jO P j : Int)) /\ wr = w) (fun _ i _ => 238 - (intOf i).toNat)
 case atStart => exact ⟨0, by omega, rfl, by simp [jO], rfl⟩
 case round =>
  obtain ⟨j, hj, rfl, rfl, rfl⟩ := hrel
  by_cases hlt : j < 238
  ·have hjI : (j : Int) < 238 := by omega
   go_upto_region 6 with fail
   refine wp_region_lit ?_
   refine aK rfl (nO rfl rfl rfl (HIX.out _ j hlt)) ?_
   go_wp2_with fail
   refine (HC.out j _).mono ?_
   rintro e w1 ⟨rfl, rfl⟩
   have h1 := HO.out j
   have h2 := HO.out (j + 1)
   have h3 : jO P (j + 1) = jO P j + mC P j := rfl
   have e1 : IntKind.i64.wrap ((n : Int) - (jO P j : Int) - (mC P j : Int)) = (n : Int) - (jO P (j + 1) : Int) := by rw [IntWalk.i64_in _ (by omega)]; omega
   clear h1 h2 h3
   go_wp2_with fail
   go_roundw
   case rel => exact ⟨j + 1, by omega, by go_num, rfl, by first | rfl | trivial⟩
   case measure => simp [intOf]; omega
  ·obtain rfl : j = 238 := by omega
   go_wp2_with fail
   go_ret
   rw [HP.out]
   exact ⟨rfl, rfl⟩
theorem Ub {n : Nat} {H : List Int} (ho : oZ n H) : ∃ k, gS H k := by
 have : ∀ m : Nat, (∀ i : Nat, i < m -> (i : Int) ∈ H) \/ ∃ k, gS H k := by
  intro m
  induction m with
  | zero => exact .inl fun i hi => by omega
  | succ m ih =>
    rcases ih with h | h
    ·by_cases hm : (m : Int) ∈ H
     ·refine .inl fun i hi => ?_
      rcases Nat.lt_or_ge i m with h' | h'
      ·exact h i h'
      ·obtain rfl : i = m := by omega
       exact hm
     ·exact .inr ⟨m, h, hm⟩
    ·exact .inr h
 rcases this (n + 1) with h | h
 ·have := ho.range _ (h n (by omega))
  omega
 ·exact h
theorem Uc {n : Nat} {H : List Int} {k j : Nat} (hk : gS H k) (hlt : dK (jS H) j < 8) (hin : j * 8 + dK (jS H) j < n) (hf : ∀ i, i < j -> dK (jS H) i = 8 \/ n <= i * 8 + dK (jS H) i) : k = j * 8 + dK (jS H) j := by
 refine hk.one (gS.byte (fun i hi => ?_) hlt)
 rcases hf i hi with h | h
 ·exact h
 ·have := mT (jS H) i
  omega
theorem Ow {n : Nat} {H : List Int} {k : Nat} (ho : oZ n H) (hk : gS H k) (hn : n <= 1900) (hf : ∀ i, i < 238 -> dK (jS H) i = 8 \/ n <= i * 8 + dK (jS H) i) : k = n := by
 have h1 := hk.le ho
 rcases Nat.lt_or_ge k n with h | h
 ·have h2 : ¬ (k % 8 < dK (jS H) (k / 8)) := fun h2 => by
   have := (oY (jS H) (k / 8)).1 (k % 8) h2
   rw [i8] at this
   exact hk.not ((lV _ _).1 this)
  rcases hf (k / 8) (by omega) with h3 | h3 <;> omega
 ·omega
theorem Ox {w : World} {g n : Nat} {H : List Int} (h : aU w g n H) {k : Nat} (hk : gS H k) : Calls Tryz.prog 81 #[.pointer (some ⟨g, 0, none⟩)] w fun e w' =>
  (k < n /\ e = .returned (.tuple #[.int .i64 (k : Int), .int .i64 0]) /\ bA w w' g n (mD (k : Int) H)) \/ (k = n /\ e = .returned (.tuple #[.int .i64 0, .int .i64 20]) /\ w' = w) := by
 have hs := h.size
 have HR := Lib.hid h
 have HK := Lib.hid hk
 obtain ⟨P, hP⟩ : ∃ P, P = jS H := ⟨_, rfl⟩
 have HL := Lib.hid h.load
 rw [<- hP] at HL
 obtain ⟨C, hC⟩ : ∃ C, C = qW P := ⟨_, rfl⟩
 rw [<- hC] at HL
 have HIX : Hid (∀ (w : World) (j : Nat), j < 238 -> (Instr.index 93 (.agg C) (.int .i64 (j : Int))).run Tryz.prog w = .ok (.int .u8 (cV P j : Int)) w) := Lib.hid (fun w j hj => vB w C j _ hj (by rw [hC]; exact qX P hj))
 have HC : Hid (∀ (j : Nat) (w : World), Calls Tryz.prog 124 #[.int .u8 ((255 ^^^ cV P j : Nat) : Int)] w fun e w' => e = .returned (.int .i64 (dK P j : Int)) /\ w' = w) := Lib.hid (fun j w => Zr P j w)
 have hgl := h.lt
 have HPP := Lib.hid hP
 clear h hP hC hk
 go_enter Tryz.func81, Tryz.ntmps81
 go_upto_region 3 with fail
 refine wp_region_lit ?_
 refine aK (v := .pointer (some ⟨g, 0, none⟩)) rfl rfl ?_
 refine aK (v := .pointer (some ⟨g, 0, none⟩)) rfl rfl ?_
 refine aK (v := .pointer (some ⟨g, 1, none⟩)) rfl rfl ?_
 refine cZ rfl rfl rfl HL.out ?_
 go_wp2_with fail
 go_loopw [13] (fun i wr => ∃ (j : Nat), j <= 238 /\ i = .int .i64 j /\ (∀ i, i < j -> dK P i = 8 \/ n <= i * 8 + dK P i) /\ wr = w) (fun i _ => 238 - (intOf i).toNat)
 case atStart => exact ⟨0, by omega, rfl, fun i hi => by omega, rfl⟩
 case round =>
  obtain ⟨j, hj, rfl, hf, rfl⟩ := hrel
  have HFF := Lib.hid hf
  clear hf
  by_cases hlt : j < 238
  ·have hjI : (j : Int) < 238 := by omega
   go_upto_region 5 with fail
   refine wp_region_lit ?_
   refine aK (v := .int .i64 (j : Int)) rfl rfl ?_
   refine aK rfl (nO rfl rfl rfl (HIX.out _ j hlt)) ?_
   obtain ⟨b, hb⟩ : ∃ b, b = cV P j := ⟨_, rfl⟩
   obtain ⟨f, hfe⟩ : ∃ f, f = dK P j := ⟨_, rfl⟩
   obtain ⟨c, hc⟩ : ∃ c, c = 255 ^^^ b := ⟨_, rfl⟩
   have hb8 : b < 256 := by rw [hb]; exact oX _ _
   have hf8 : f <= 8 := by rw [hfe]; exact mT _ _
   have hxor : bits .xor .u8 IntKind.u8.max (b : Int) = (c : Int) := by
    rw [hc]
    exact u8_xor_nat 255 b (by omega) hb8
   have HTZ : Hid (∀ w, Calls Tryz.prog 124 #[.int .u8 (c : Int)] w fun e w' => e = .returned (.int .i64 (f : Int)) /\ w' = w) := Lib.hid (fun w => by rw [hc, hb, hfe]; exact HC.out j w)
   have hful : b = 255 ↔ f = 8 := by rw [hb, hfe]; exact Pe P j
   have HFE := Lib.hid hfe
   rw [<- hb]
   have e1 : IntKind.i64.wrap ((j : Int) * 8) = (j : Int) * 8 := IntWalk.i64_in _ (by omega)
   have e2 : IntKind.i64.wrap ((j : Int) * 8 + (f : Int)) = ((j * 8 + f : Nat) : Int) := by rw [IntWalk.i64_in _ (by omega)]; omega
   obtain ⟨t, ht⟩ : ∃ t, t = j * 8 + f := ⟨_, rfl⟩
   rw [<- ht] at e2
   have HT := Lib.hid ht
   have HH := Lib.hid (yN (t : Int) HR.out)
   clear hb hfe hc ht
   by_cases hbe : b = 255
   ·have hf9 : f = 8 := hful.1 hbe
    have HF9 := Lib.hid hf9
    have hbI : (b : Int) = 255 := by omega
    clear hful hf9 hbe
    rw [hbI] at hxor
    go_wp2_with fail
    refine (HTZ.out _).mono ?_
    rintro e w1 ⟨rfl, rfl⟩
    go_wp2_with fail
    go_roundw
    case rel => exact ⟨j + 1, by omega, by go_num, fun i hi => by
     rcases Nat.lt_or_ge i j with h' | h'
     ·exact HFF.out i h'
     ·obtain rfl : i = j := by omega
      rw [<- HFE.out]
      exact .inl HF9.out, by first | rfl | trivial⟩
    case measure => simp [intOf]; omega
   ·have hf9 : f < 8 := by have := mt hful.2 hbe; omega
    have hbI : ¬ (b : Int) = 255 := by omega
    clear hful hbe
    by_cases hin : t < n
    ·have hda : decide (0 <= (t : Int) /\ (t : Int) < (n : Int)) = true := decide_eq_true ⟨by omega, by omega⟩
     rw [hda] at HH
     have HKT : Hid (k = t) := Lib.hid (by
      rw [HT.out, HFE.out, HPP.out]
      rw [HT.out] at hin
      have h9 := hf9
      rw [HFE.out, HPP.out] at hin h9
      have := HFF.out
      rw [HPP.out] at this
      exact Uc HK.out h9 hin this)
     have HST := Lib.hid (Gd t HR.out hin)
     clear hda
     go_wp2_with fail
     refine (HTZ.out _).mono ?_
     rintro e w1 ⟨rfl, rfl⟩
     go_wp2_with fail
     refine HH.out.mono ?_
     rintro e w1 ⟨rfl, rfl⟩
     go_wp2_with fail
     refine HST.out.mono ?_
     rintro e w1 ⟨rfl, hT⟩
     have HTT := Lib.hid hT
     clear hT
     go_wp2_with fail
     go_ret2
     rw [HKT.out]
     exact .inl ⟨hin, rfl, HTT.out⟩
    ·have hda : decide (0 <= (t : Int) /\ (t : Int) < (n : Int)) = false := decide_eq_false (fun h => by omega)
     rw [hda] at HH
     clear hda
     go_wp2_with fail
     refine (HTZ.out _).mono ?_
     rintro e w1 ⟨rfl, rfl⟩
     go_wp2_with fail
     refine HH.out.mono ?_
     rintro e w1 ⟨rfl, rfl⟩
     go_wp2_with fail
     go_roundw
     case rel => exact ⟨j + 1, by omega, by go_num, fun i hi => by
      rcases Nat.lt_or_ge i j with h' | h'
      ·exact HFF.out i h'
      ·obtain rfl : i = j := by omega
       rw [<- HFE.out, <- HT.out]
       exact .inr (by omega), by first | rfl | trivial⟩
     case measure => simp [intOf]; omega
  ·obtain rfl : j = 238 := by omega
   have HE : Hid (k = n) := Lib.hid (by
    have := HFF.out
    rw [HPP.out] at this
    exact Ow HR.out.ok HK.out hs this)
   go_wp2_with fail
   go_ret2
   exact .inr ⟨HE.out, rfl, rfl⟩
theorem pU {w w' : World} {base : Nat} {e : TypeId} {size : Nat} {v : Value} {n : Nat} {xs : List Value} {row : Option Nat} (h : w.ownsRow base e size v n xs) (hg : w.grownBy w' row) (hr : ∀ k, row = some k -> v.ownBlock ≠ some k) : w'.ownsRow base e size v n xs := by
 refine ⟨h.1, ?_⟩
 rcases h.2 with hn | ⟨g, cap, cur, rfl, hb1, hgg, rest⟩
 ·exact .inl hn
 ·exact .inr ⟨g, cap, cur, rfl, hb1, (hg.block g (h.lt g rfl).2 (fun e => hr g e.symm rfl)).trans hgg, rest⟩
theorem aV {w w' : World} {g : Nat} {t : TypeId} {cs : Array Value} {row : Option Nat} (h : aG w g t cs) (hg : w.grownBy w' row) (hr : row ≠ some g) : aG w' g t cs := (hg.block g h.lt (fun e => hr e.symm)).trans h
theorem kV {w : World} {base : Nat} {e : TypeId} {size : Nat} {v : Value} {n : Nat} {xs : List Value} (h : w.ownsRow base e size v n xs) : ∃ p cap, v = .slice p n cap /\ (p = none -> n = 0) := by
 rcases h.2 with ⟨rfl, rfl⟩ | ⟨g, cap, cur, rfl, _⟩
 ·exact ⟨none, 0, rfl, fun _ => rfl⟩
 ·exact ⟨some ⟨g, 0, none⟩, cap, rfl, fun h => by cases h⟩
theorem cG {w w' : World} {base : Nat} {e : TypeId} {size : Nat} {v : Value} {n : Nat} {xs : List Value} (h : w.ownsRow base e size v n xs) (hb : ∀ k, v.ownBlock = some k -> w'.heap[k]? = w.heap[k]?) : w'.ownsRow base e size v n xs := by
 refine ⟨h.1, ?_⟩
 rcases h.2 with hn | ⟨g, cap, cur, rfl, hb1, hgg, rest⟩
 ·exact .inl hn
 ·exact .inr ⟨g, cap, cur, rfl, hb1, by rw [hb g rfl]; exact hgg, rest⟩
theorem eG {w : World} {base base' : Nat} {e : TypeId} {size : Nat} {v : Value} {n : Nat} {xs : List Value} (h : w.ownsRow base e size v n xs) (hb : base' <= base) : w.ownsRow base' e size v n xs := by
 refine ⟨h.1, ?_⟩
 rcases h.2 with hn | ⟨g, cap, cur, rfl, hb1, rest⟩
 ·exact .inl hn
 ·exact .inr ⟨g, cap, cur, rfl, by omega, rest⟩
section
variable {w : World} {base size n cap : Nat} {e : TypeId} {v : Value} {xs : List Value}
end
end Go.Proofs.YtingkbeifohihaaGreatDoor
