/-
  Package room's Read, of any bytes. No statement is proved here.
-/
import Derived.Shelf.SlGeneric
import Derived.Shelf.SlSortCmp.NoneTotal
import Derived.Shelf.SlMaps.Clone
import Derived.Ground.SlsfProg
import Derived.Ground.SlmcProg
import Derived.Ground.NamesProg
import Derived.Test.YtingkbeifohihaaGreatDoorWalCalm
import Derived.Test.YtingkbeifohihaaGreatDoorDiskMade
import Derived.Laws.BitsAllLaws
import Derived.Test.YtingkbeifohihaaGreatDoorWalMap
import Derived.Test.YtingkbeifohihaaGreatDoorGrow
namespace Go.Proofs.YtingkbeifohihaaGreatDoor
open Go.Shelf
def Gx : Go.Shelf.Ren := ⟨fun | 6 => 64 | 15 => 110 | 14 => 109 | 28 => 163 | 29 => 164 | 20 => 155 | 21 => 156 | 22 => 157 | 23 => 158 | 24 => 159 | 25 => 160 | 26 => 161 | 27 => 162 | 46 => 184 | 47 => 185 | 48 => 186 | 49 => 187 | 50 => 188 | 57 => 209 | n => n, fun | 22 => 71 | 24 => 74 | 25 => 126 | 3 => 3 | 39 => 137 | 0 => 0 | 53 => 132 | 55 => 91 | 4 => 4 | 46 => 214 | 45 => 213 | 50 => 218 | 5 => 5 | 9 => 9 | 66 => 240 | 70 => 244 | 76 => 262 | 77 => 263 | n => n, fun | n => n⟩
theorem Mb : Go.Proofs.SlLaysF0.n6 Tryz.prog Gx := {
 mixed := by kernel_rfl
 f6 := ⟨Tryz.f64.name, by decide, Tryz.func64.trans (congrArg some (by kernel_rfl))⟩
 f14 := ⟨Tryz.f109.name, by decide, Tryz.func109.trans (congrArg some (by kernel_rfl))⟩
 f15 := Tryz.func110.trans (congrArg some (by kernel_rfl))
 f20 := ⟨Tryz.f155.name, by decide, Tryz.func155.trans (congrArg some (by kernel_rfl))⟩
 f21 := ⟨Tryz.f156.name, by decide, Tryz.func156.trans (congrArg some (by kernel_rfl))⟩
 f22 := ⟨Tryz.f157.name, by decide, Tryz.func157.trans (congrArg some (by kernel_rfl))⟩
 f23 := ⟨Tryz.f158.name, by decide, Tryz.func158.trans (congrArg some (by kernel_rfl))⟩
 f24 := ⟨Tryz.f159.name, by decide, Tryz.func159.trans (congrArg some (by kernel_rfl))⟩
 f25 := ⟨Tryz.f160.name, by decide, Tryz.func160.trans (congrArg some (by kernel_rfl))⟩
 f26 := ⟨Tryz.f161.name, by decide, Tryz.func161.trans (congrArg some (by kernel_rfl))⟩
 f27 := ⟨Tryz.f162.name, by decide, Tryz.func162.trans (congrArg some (by kernel_rfl))⟩
 f28 := Tryz.func163.trans (congrArg some (by kernel_rfl))
 f29 := Tryz.func164.trans (congrArg some (by kernel_rfl))
 f46 := ⟨Tryz.f184.name, by decide, Tryz.func184.trans (congrArg some (by kernel_rfl))⟩
 f47 := Tryz.func185.trans (congrArg some (by kernel_rfl))
 f48 := Tryz.func186.trans (congrArg some (by kernel_rfl))
 f49 := ⟨Tryz.f187.name, by decide, Tryz.func187.trans (congrArg some (by kernel_rfl))⟩
 f50 := ⟨Tryz.f188.name, by decide, Tryz.func188.trans (congrArg some (by kernel_rfl))⟩
 f57 := ⟨Tryz.f209.name, by decide, Tryz.func209.trans (congrArg some (by kernel_rfl))⟩
 t0 := Tryz.underlying0
 a0 := Tryz.isAgg0
 z0 := Tryz.sizeOf0
 v0 := Tryz.zeroValue0
 t3 := Tryz.underlying3
 a3 := Tryz.isAgg3
 z3 := Tryz.sizeOf3
 v3 := Tryz.zeroValue3
 t4 := Tryz.underlying4
 a4 := Tryz.isAgg4
 z4 := Tryz.sizeOf4
 v4 := Tryz.zeroValue4
 t5 := Tryz.underlying5
 a5 := Tryz.isAgg5
 z5 := Tryz.sizeOf5
 v5 := Tryz.zeroValue5
 t9 := Tryz.underlying9
 a9 := Tryz.isAgg9
 z9 := Tryz.sizeOf9
 v9 := Tryz.zeroValue9
 t22 := Tryz.underlying71
 a22 := Tryz.isAgg71
 z22 := Tryz.sizeOf71
 v22 := Tryz.zeroValue71
 t25 := Tryz.underlying126
 a25 := Tryz.isAgg126
 z25 := Tryz.sizeOf126
 v25 := Tryz.zeroValue126
 t39 := Tryz.underlying137
 a39 := Tryz.isAgg137
 z39 := Tryz.sizeOf137
 v39 := Tryz.zeroValue137
 t45 := Tryz.underlying213
 a45 := Tryz.isAgg213
 z45 := Tryz.sizeOf213
 v45 := Tryz.zeroValue213
 t46 := Tryz.underlying214
 a46 := Tryz.isAgg214
 z46 := Tryz.sizeOf214
 v46 := Tryz.zeroValue214
 t50 := Tryz.underlying218
 a50 := Tryz.isAgg218
 z50 := Tryz.sizeOf218
 v50 := Tryz.zeroValue218
 t53 := Tryz.underlying132
 a53 := Tryz.isAgg132
 z53 := Tryz.sizeOf132
 v53 := Tryz.zeroValue132
 t55 := Tryz.underlying91
 a55 := Tryz.isAgg91
 z55 := Tryz.sizeOf91
 v55 := Tryz.zeroValue91
 t66 := Tryz.underlying240
 a66 := Tryz.isAgg240
 z66 := Tryz.sizeOf240
 v66 := Tryz.zeroValue240
 t70 := Tryz.underlying244
 a70 := Tryz.isAgg244
 z70 := Tryz.sizeOf244
 v70 := Tryz.zeroValue244
 t76 := Tryz.underlying262
 a76 := Tryz.isAgg262
 z76 := Tryz.sizeOf262
 v76 := Tryz.zeroValue262
 t77 := Tryz.underlying263
 a77 := Tryz.isAgg263
 z77 := Tryz.sizeOf263
 v77 := Tryz.zeroValue263 }
def Gy : Go.Shelf.Ren := ⟨fun | 5 => 79 | 7 => 123 | n => n, fun | 23 => 64 | 25 => 3 | 3 => 74 | 4 => 4 | 20 => 20 | n => n, fun | n => n⟩
theorem Ya : Go.Proofs.SlLaysW.n5 Tryz.prog Gy := {
 mixed := by kernel_rfl
 f5 := ⟨Tryz.f79.name, by decide, Tryz.func79.trans (congrArg some (by kernel_rfl))⟩
 f7 := Tryz.func123.trans (congrArg some (by kernel_rfl))
 t4 := Tryz.underlying4
 a4 := Tryz.isAgg4
 z4 := Tryz.sizeOf4
 v4 := Tryz.zeroValue4
 t20 := Tryz.underlying20
 a20 := Tryz.isAgg20
 z20 := Tryz.sizeOf20
 v20 := Tryz.zeroValue20
 t23 := Tryz.underlying64
 a23 := Tryz.isAgg64
 z23 := Tryz.sizeOf64
 v23 := Tryz.zeroValue64 }
open Go.RowKit
def mG (P : Nat -> Bool) (m : Nat) : List UInt8 := (List.range m).map fun k => (cV P k).toUInt8
theorem fX (P : Nat -> Bool) (m : Nat) : (mG P m).length = m := by simp [mG]
def lZ (n : Nat) (H : List Int) : List UInt8 := aD 1 6 ++ (aD 2 n ++ mG (jS H) 238)
theorem jY (n : Nat) (H : List Int) : (lZ n H).length = 241 := by
 unfold lZ
 rw [List.length_append, List.length_append, aL, aL, fX]
def mW (n : Nat) (H : List Int) : List UInt8 := gU 256 (lZ n H) ++ aD 4 (tB (gU 256 (lZ n H)))
theorem Hb (n : Nat) (H : List Int) : oW 256 (lZ n H) = (mW n H, 0) := sK (by omega) (by omega) (by rw [jY]; omega)
theorem vW (n : Nat) (H : List Int) : (gU 256 (lZ n H)).length = 252 := by
 have := lU (n := 256) (l := lZ n H) (by rw [jY]; omega)
 omega
theorem Dp (n : Nat) (H : List Int) : (mW n H).length = 256 := by
 unfold mW
 rw [List.length_append, vW, aL]
set_option maxRecDepth 100000
set_option maxHeartbeats 8000000
theorem Gz {w : World} {b : Nat} {s : ByteArray} (h : aG w b 9 #[.string s]) : dL w w.heap.size (some ⟨b, 0, none⟩) [s] := by
 intro _
 refine ⟨b, 0, rfl, h.lt, fun j x hx => ?_⟩
 match j, hx with
 | 0, hx =>
   obtain rfl : s = x := by simpa using hx
   exact h.cell 0
theorem AP (a : Array Value) (h : a.size = 34) : ∃ x0 x1 x2 x3 x4 x5 x6 x7 x8 x9 x10 x11 x12 x13 x14 x15 x16 x17 x18 x19 x20 x21 x22 x23 x24 x25 x26 x27 x28 x29 x30 x31 x32 x33 : Value, a = #[x0, x1, x2, x3, x4, x5, x6, x7, x8, x9, x10, x11, x12, x13, x14, x15, x16, x17, x18, x19, x20, x21, x22, x23, x24, x25, x26, x27, x28, x29, x30, x31, x32, x33] := by
 obtain ⟨l⟩ := a
 have h : l.length = 34 := h
 obtain ⟨x0, t1, e1, h1⟩ := aB h
 obtain ⟨x1, t2, e2, h2⟩ := aB h1
 obtain ⟨x2, t3, e3, h3⟩ := aB h2
 obtain ⟨x3, t4, e4, h4⟩ := aB h3
 obtain ⟨x4, t5, e5, h5⟩ := aB h4
 obtain ⟨x5, t6, e6, h6⟩ := aB h5
 obtain ⟨x6, t7, e7, h7⟩ := aB h6
 obtain ⟨x7, t8, e8, h8⟩ := aB h7
 obtain ⟨x8, t9, e9, h9⟩ := aB h8
 obtain ⟨x9, t10, e10, h10⟩ := aB h9
 obtain ⟨x10, t11, e11, h11⟩ := aB h10
 obtain ⟨x11, t12, e12, h12⟩ := aB h11
 obtain ⟨x12, t13, e13, h13⟩ := aB h12
 obtain ⟨x13, t14, e14, h14⟩ := aB h13
 obtain ⟨x14, t15, e15, h15⟩ := aB h14
 obtain ⟨x15, t16, e16, h16⟩ := aB h15
 obtain ⟨x16, t17, e17, h17⟩ := aB h16
 obtain ⟨x17, t18, e18, h18⟩ := aB h17
 obtain ⟨x18, t19, e19, h19⟩ := aB h18
 obtain ⟨x19, t20, e20, h20⟩ := aB h19
 obtain ⟨x20, t21, e21, h21⟩ := aB h20
 obtain ⟨x21, t22, e22, h22⟩ := aB h21
 obtain ⟨x22, t23, e23, h23⟩ := aB h22
 obtain ⟨x23, t24, e24, h24⟩ := aB h23
 obtain ⟨x24, t25, e25, h25⟩ := aB h24
 obtain ⟨x25, t26, e26, h26⟩ := aB h25
 obtain ⟨x26, t27, e27, h27⟩ := aB h26
 obtain ⟨x27, t28, e28, h28⟩ := aB h27
 obtain ⟨x28, t29, e29, h29⟩ := aB h28
 obtain ⟨x29, t30, e30, h30⟩ := aB h29
 obtain ⟨x30, t31, e31, h31⟩ := aB h30
 obtain ⟨x31, t32, e32, h32⟩ := aB h31
 obtain ⟨x32, t33, e33, h33⟩ := aB h32
 obtain ⟨x33, t34, e34, h34⟩ := aB h33
 obtain rfl := List.eq_nil_of_length_eq_zero h34
 subst e34 e33 e32 e31 e30 e29 e28 e27 e26 e25 e24 e23 e22 e21 e20 e19 e18 e17 e16 e15 e14 e13 e12 e11 e10 e9 e8 e7 e6 e5 e4 e3 e2 e1
 exact ⟨x0, x1, x2, x3, x4, x5, x6, x7, x8, x9, x10, x11, x12, x13, x14, x15, x16, x17, x18, x19, x20, x21, x22, x23, x24, x25, x26, x27, x28, x29, x30, x31, x32, x33, rfl⟩
def pG (n : Nat) (B : ByteArray) : Nat -> Wr
 | 0 | 1 => ⟨[], 0⟩
 | 2 => Wr.nums ⟨[], 0⟩ 1 [6]
 | 3 => (Wr.nums ⟨[], 0⟩ 1 [6]).nums 2 [(n : Int)]
 | _ => ((Wr.nums ⟨[], 0⟩ 1 [6]).nums 2 [(n : Int)]).raws [B]
theorem zD (n : Nat) (B : ByteArray) : pG n B 2 = ⟨aD 1 6, 0⟩ := by
 show Wr.nums ⟨[], 0⟩ 1 [((6 : Nat) : Int)] = _
 rw [lT _ _ _ (pS (by omega)), wJ, List.nil_append]
theorem sV {n : Nat} (hn : n <= 1900) (B : ByteArray) : pG n B 3 = ⟨aD 1 6 ++ aD 2 n, 0⟩ := by
 show Wr.nums (pG n B 2) 2 [(n : Int)] = _
 rw [zD, lT _ _ _ (pS (by omega)), wJ]
theorem Ha {n : Nat} (hn : n <= 1900) (H : List Int) : pG n (bs (mG (jS H) 238)) 4 = ⟨lZ n H, 0⟩ := by
 show Wr.raws (pG n (bs (mG (jS H) 238)) 3) [bs (mG (jS H) 238)] = _
 rw [sV hn]
 unfold Wr.raws Wr.lay
 rw [if_pos rfl]
 simp [gA, lZ]
def AV (i : Nat) : Option Nat := [10, 11, 12, 13, 14, 15, 16, 17, 18, 19, 20, 21, 22, 23, 24, 25, 26, 9, 27, 28, 4, 5][i]?
theorem Yb (i j s : Nat) (_ : i < 22) (_ : j < 22) (h1 : AV i = some s) (h2 : AV j = some s) : i = j := pN (by decide) i j s h1 h2
theorem Zw (i s : Nat) (_ : i < 22) (h : AV i = some s) : s < 34 := (by decide : ∀ x ∈ [10, 11, 12, 13, 14, 15, 16, 17, 18, 19, 20, 21, 22, 23, 24, 25, 26, 9, 27, 28, 4, 5], x < 34) s (List.mem_of_getElem? h)
def AB (n : Nat) : Nat := [0, 2, 8, 15, 16].getD n 0
theorem Yc (i j : Nat) (hi : i < 5) (hj : j < 5) (h : AB i = AB j) : i = j := (by decide : ∀ i, i < 5 -> ∀ j, j < 5 -> AB i = AB j -> i = j) i hi j hj h
theorem Zx : ∀ i, i < 5 -> AB i < 22 := by decide
def AW (g0 n : Nat) (B Y : ByteArray) : Nat -> Value -> World -> Prop
 | 1, v, w => ∃ b, v = .slice (some ⟨b, 0, none⟩) 1 1 /\ aG w b 3 #[.int .i64 6]
 | 3, v, _ => v = .pointer (some ⟨g0, 0, none⟩)
 | 4, v, _ => v = .pointer (some ⟨g0, 0, none⟩)
 | 5, v, _ => v = .pointer (some ⟨g0, 0, none⟩)
 | 6, v, _ => v = .int .i64 (n : Int)
 | 7, v, w => ∃ b, v = .slice (some ⟨b, 0, none⟩) 1 1 /\ aG w b 3 #[.int .i64 (n : Int)]
 | 9, v, _ => v = .pointer (some ⟨g0, 0, none⟩)
 | 10, v, _ => v = .pointer (some ⟨g0, 0, none⟩)
 | 11, v, _ => v = .pointer (some ⟨g0, 1, none⟩)
 | 12, v, _ => v = .slice (some ⟨g0, 1, none⟩) 238 238
 | 13, v, _ => v = .string B
 | 14, v, w => ∃ b, v = .slice (some ⟨b, 0, none⟩) 1 1 /\ aG w b 9 #[.string B]
 | 16, v, _ => v = .tuple #[.string Y, .int .i64 0]
 | 17, v, _ => v = .tuple #[.string Y, .int .i64 0]
 | 18, v, _ => v = .string Y
 | 19, v, _ => v = .int .i64 0
 | 20, v, _ => v = .string Y
 | 21, v, _ => v = .int .i64 0
 | _, _, _ => True
def Qd (W0 : World) (n : Nat) (B : ByteArray) : Nat -> Value -> World -> Prop
 | 0, _, w => Below W0.heap.size W0 w
 | 5, _, w => Below W0.heap.size W0 w
 | m, v, w => Below W0.heap.size W0 w /\ ∃ g, v = .pointer (some ⟨g, 0, none⟩) /\ W0.heap.size <= g /\ bF w g (pG n B m)
theorem zE {W0 : World} {n m : Nat} {B : ByteArray} {v : Value} {w : World} (hc : Qd W0 n B m v w) : Below W0.heap.size W0 w := by
 unfold Qd at hc
 split at hc
 ·exact hc
 ·exact hc
 ·exact hc.1
theorem Qe {W0 : World} {n : Nat} {B : ByteArray} (m : Nat) (v : Value) (w w' : World) (hc : Qd W0 n B m v w) (hg : w.grownBy w' none) : Qd W0 n B m v w' := by
 have hb := zE hc
 have hb' := oT hb hg hb.size
 unfold Qd at hc ⊢
 split at hc
 ·exact hb'
 ·exact hb'
 ·obtain ⟨_, g, hv, hW, ho⟩ := hc
  exact ⟨hb', g, hv, hW, ho.kept' hg⟩
theorem Ve {g0 n : Nat} {B Y : ByteArray} (i : Nat) (v : Value) (w w' : World) (hf : AW g0 n B Y i v w) (hg : cP 149 w w') : AW g0 n B Y i v w' := by
 unfold AW at hf ⊢
 split at hf <;> first
  | exact hf
  | (obtain ⟨b, hv, hb⟩ := hf; exact ⟨b, hv, hb.grownT hg (by decide)⟩)
  | trivial
theorem Cc {w : World} {g0 n : Nat} {H : List Int} (h : aU w g0 n H) (h1 : 1 <= n) :
  Calls Tryz.prog 63 #[.pointer (some ⟨g0, 0, none⟩)] w fun e w' => e = .returned (.tuple #[.string (bs (mW n H)), .int .i64 0]) /\ Below w.heap.size w w' := by
 have hn := h.size
 obtain ⟨B, hB⟩ : ∃ B, B = bs (mG (jS H) 238) := ⟨_, rfl⟩
 obtain ⟨Y, hY⟩ : ∃ Y, Y = bs (lZ n H) := ⟨_, rfl⟩
 have S2 := Lib.hid (zD n B)
 have S3 := Lib.hid (sV hn B)
 have S4 : Hid (pG n B 4 = ⟨lZ n H, 0⟩) := Lib.hid (by rw [hB]; exact Ha hn H)
 have HSZ : Hid (∀ W, Below w.heap.size w W -> Calls Tryz.prog 108 #[.pointer (some ⟨g0, 0, none⟩)] W fun e w' => e = .returned (.int .i64 (n : Int)) /\ w' = W) := Lib.hid (fun W hW => Ge (h.below hW))
 have HG0 : Hid (∀ W, Below w.heap.size w W -> g0 < W.heap.size) := Lib.hid (fun W hW => Nat.lt_of_lt_of_le h.lt hW.size)
 have HC0 : Hid (∀ W, Below w.heap.size w W -> W.cell? ⟨g0, 0, none⟩ = some (.int .i64 (n : Int))) := Lib.hid (fun W hW => (h.below hW).zero)
 have HCV : Hid (∀ W, Below w.heap.size w W -> (convert 79 9 (.slice (some ⟨g0, 1, none⟩) 238 238)).run Tryz.prog W = .ok (.string B) W) := Lib.hid (fun W hW => by
  have hr := h.below hW
  have := run_convert_bytes_back (P := Tryz.prog) W 79 9 5 ⟨g0, 1, none⟩ 238 (mG (jS H) 238) Tryz.underlying79 Tryz.underlying5 Tryz.underlying9 (fun i hi => by
   rw [fX] at hi
   rw [Go.WideShapes.add_plain]
   have e := hr.byte hi
   have e2 : ((mG (jS H) 238)[i]'(by rw [fX]; exact hi)).toNat = cV (jS H) i := by
    unfold mG
    rw [List.getElem_map, List.getElem_range, UInt8.toNat_ofNat', Nat.mod_eq_of_lt (oX _ _)]
   rw [e2]
   exact e)
  rw [fX] at this
  rw [hB]
  exact this)
 have HSEAL : Hid (∀ (W : World) (X : Option Addr) (cc : Nat), dL W W.heap.size X [Y] -> Calls Tryz.prog 86 #[.int .i64 256, .slice X 1 cc] W fun e w' => e = .returned (.tuple #[.string (bs (mW n H)), .int .i64 0]) /\ Below W.heap.size W w') := Lib.hid (fun W X cc hx => by
  have hfit : oD [Y] := by
   refine ⟨by simp, fun x hx => ?_⟩
   rw [List.mem_singleton.1 hx, hY, dO, jY]
   omega
  have := yI 256 X 1 cc [Y] W rfl hx hfit
  rw [eW, hY, gA] at this
  have e : kT 256 (lZ n H) = .tuple #[.string (bs (mW n H)), .int .i64 0] := by unfold kT; rw [Hb]; rfl
  rwa [e] at this)
 obtain ⟨T, hT⟩ : ∃ T, T = bs (mW n H) := ⟨_, rfl⟩
 rw [<- hT] at HSEAL ⊢
 have HYE := Lib.hid hY
 have HBE' : Hid (B.size = 238) := Lib.hid (by rw [hB, dO, fX])
 have HR6 : Hid (fD [6]) := Lib.hid (gP (by omega) (by omega))
 have HRN : Hid (fD [(n : Int)]) := Lib.hid (gP (by omega) (by omega))
 have HLE : Hid ((lZ n H).length = 241) := Lib.hid (jY n H)
 have hnI : 1 <= (n : Int) := by omega
 have hnz : ¬ (n : Int) = 0 := by omega
 have hnz' : ¬ n = 0 := by omega
 clear h hT hY hB hn h1
 go_enter Tryz.func63, Tryz.ntmps63
 go_wp2_with fail
 refine (HSZ.out _ (Below.refl _ _)).mono ?_
 rintro e w1 ⟨rfl, rfl⟩
 go_upto_region 3 with fail
 refine dW 149 22 AV 5 AB (AW g0 n B Y) (Qd w1 n B) (by kernel_rfl) (by kernel_rfl) rfl Yb Zw Zx Yc ?hcw Ve Qe ?h0 ?hloose ?hchain ?hK
 case hcw =>
  intro n hn
  rcases (show n = 0 \/ n = 1 \/ n = 2 \/ n = 3 by omega) with rfl | rfl | rfl | rfl <;> exact of_decide_eq_true (by kernel_rfl)
 case h0 => exact (Below.refl _ _).drew
 case hloose =>
  intro i hi hn y w2 hf hw hch
  obtain ⟨nn, vv, _, hcc⟩ := hch
  have hbe := zE hcc
  clear hcc
  rcases (show i = 0 \/ i = 1 \/ i = 2 \/ i = 3 \/ i = 4 \/ i = 5 \/ i = 6 \/ i = 7 \/ i = 8 \/ i = 9 \/ i = 10 \/ i = 11 \/ i = 12 \/ i = 13 \/ i = 14 \/ i = 15 \/ i = 16 \/ i = 17 \/ i = 18 \/ i = 19 \/ i = 20 \/ i = 21 by omega) with rfl | rfl | rfl | rfl | rfl | rfl | rfl | rfl | rfl | rfl | rfl | rfl | rfl | rfl | rfl | rfl | rfl | rfl | rfl | rfl | rfl | rfl
  ·exact absurd rfl (hn 0 (by omega))
  ·clear hf hw hn hbe
   refine aA (v := .slice (some ⟨w2.heap.size, 0, none⟩) 1 1) (w' := w2.alloc (.cells #[.int .i64 6] 3)) rfl rfl ?_ ⟨_, rfl, (fun h => by cases h), bH (aC _ _) _, ?_⟩
   ·go_simp
   ·exact ⟨_, rfl, aG.new _ _ _⟩
  ·exact absurd rfl (hn 1 (by omega))
  ·have e1 : y.tmps[0]?.getD undef = .pointer (some ⟨g0, 0, none⟩) := by rw [hf.2.2 0 (by decide)]; rfl
   clear hf hw hn hbe
   refine aA (v := .pointer (some ⟨g0, 0, none⟩)) (w' := w2) rfl rfl ?_ ⟨_, rfl, (fun h => by cases h), aC _ _, ?_⟩
   ·go_simp
   ·exact (rfl : (.pointer (some ⟨g0, 0, none⟩) : Value) = _)
  ·have e1 : y.tmps[13]?.getD undef = .pointer (some ⟨g0, 0, none⟩) := hw 3 (of_decide_eq_true (by kernel_rfl))
   have hg0 := HG0.out w2 hbe
   clear hf hw hn hbe
   refine aA (v := .pointer (some ⟨g0, 0, none⟩)) (w' := w2) rfl rfl ?_ ⟨_, rfl, (fun h => by cases h), aC _ _, ?_⟩
   ·go_simp
   ·exact (rfl : (.pointer (some ⟨g0, 0, none⟩) : Value) = _)
  ·have e1 : y.tmps[14]?.getD undef = .pointer (some ⟨g0, 0, none⟩) := hw 4 (of_decide_eq_true (by kernel_rfl))
   clear hf hw hn hbe
   refine aA (v := .pointer (some ⟨g0, 0, none⟩)) (w' := w2) rfl rfl ?_ ⟨_, rfl, (fun h => by cases h), aC _ _, ?_⟩
   ·go_simp
   ·exact (rfl : (.pointer (some ⟨g0, 0, none⟩) : Value) = _)
  ·have e1 : y.tmps[15]?.getD undef = .pointer (some ⟨g0, 0, none⟩) := hw 5 (of_decide_eq_true (by kernel_rfl))
   have c0 := HC0.out w2 hbe
   clear hf hw hn hbe
   refine aA (v := .int .i64 (n : Int)) (w' := w2) rfl rfl ?_ ⟨_, rfl, (fun h => by cases h), aC _ _, ?_⟩
   ·go_simp
   ·exact (rfl : (.int .i64 (n : Int) : Value) = _)
  ·have e1 : y.tmps[16]?.getD undef = .int .i64 (n : Int) := hw 6 (of_decide_eq_true (by kernel_rfl))
   clear hf hw hn hbe
   refine aA (v := .slice (some ⟨w2.heap.size, 0, none⟩) 1 1) (w' := w2.alloc (.cells #[.int .i64 (n : Int)] 3)) rfl rfl ?_ ⟨_, rfl, (fun h => by cases h), bH (aC _ _) _, ?_⟩
   ·go_simp
   ·exact ⟨_, rfl, aG.new _ _ _⟩
  ·exact absurd rfl (hn 2 (by omega))
  ·have e1 : y.tmps[0]?.getD undef = .pointer (some ⟨g0, 0, none⟩) := by rw [hf.2.2 0 (by decide)]; rfl
   clear hf hw hn hbe
   refine aA (v := .pointer (some ⟨g0, 0, none⟩)) (w' := w2) rfl rfl ?_ ⟨_, rfl, (fun h => by cases h), aC _ _, ?_⟩
   ·go_simp
   ·exact (rfl : (.pointer (some ⟨g0, 0, none⟩) : Value) = _)
  ·have e1 : y.tmps[19]?.getD undef = .pointer (some ⟨g0, 0, none⟩) := hw 9 (of_decide_eq_true (by kernel_rfl))
   have hg0 := HG0.out w2 hbe
   clear hf hw hn hbe
   refine aA (v := .pointer (some ⟨g0, 0, none⟩)) (w' := w2) rfl rfl ?_ ⟨_, rfl, (fun h => by cases h), aC _ _, ?_⟩
   ·go_simp
   ·exact (rfl : (.pointer (some ⟨g0, 0, none⟩) : Value) = _)
  ·have e1 : y.tmps[20]?.getD undef = .pointer (some ⟨g0, 0, none⟩) := hw 10 (of_decide_eq_true (by kernel_rfl))
   clear hf hw hn hbe
   refine aA (v := .pointer (some ⟨g0, 1, none⟩)) (w' := w2) rfl rfl ?_ ⟨_, rfl, (fun h => by cases h), aC _ _, ?_⟩
   ·go_simp
   ·exact (rfl : (.pointer (some ⟨g0, 1, none⟩) : Value) = _)
  ·have e1 : y.tmps[21]?.getD undef = .pointer (some ⟨g0, 1, none⟩) := hw 11 (of_decide_eq_true (by kernel_rfl))
   clear hf hw hn hbe
   refine aA (v := .slice (some ⟨g0, 1, none⟩) 238 238) (w' := w2) rfl rfl ?_ ⟨_, rfl, (fun h => by cases h), aC _ _, ?_⟩
   ·go_simp
   ·exact (rfl : (.slice (some ⟨g0, 1, none⟩) 238 238 : Value) = _)
  ·have e1 : y.tmps[22]?.getD undef = .slice (some ⟨g0, 1, none⟩) 238 238 := hw 12 (of_decide_eq_true (by kernel_rfl))
   have hcv := HCV.out w2 hbe
   clear hf hw hn hbe
   refine aA (v := .string B) (w' := w2) rfl rfl ?_ ⟨_, rfl, (fun h => by cases h), aC _ _, ?_⟩
   ·go_simp
   ·exact (rfl : (.string B : Value) = _)
  ·have e1 : y.tmps[23]?.getD undef = .string B := hw 13 (of_decide_eq_true (by kernel_rfl))
   clear hf hw hn hbe
   refine aA (v := .slice (some ⟨w2.heap.size, 0, none⟩) 1 1) (w' := w2.alloc (.cells #[.string B] 9)) rfl rfl ?_ ⟨_, rfl, (fun h => by cases h), bH (aC _ _) _, ?_⟩
   ·go_simp
   ·exact ⟨_, rfl, aG.new _ _ _⟩
  ·exact absurd rfl (hn 3 (by omega))
  ·exact absurd rfl (hn 4 (by omega))
  ·have e1 : y.tmps[26]?.getD undef = .tuple #[.string Y, .int .i64 0] := hw 16 (of_decide_eq_true (by kernel_rfl))
   clear hf hw hn hbe
   refine aA (v := .tuple #[.string Y, .int .i64 0]) (w' := w2) rfl rfl ?_ ⟨_, rfl, (fun h => by cases h), aC _ _, ?_⟩
   ·go_simp
   ·exact (rfl : (.tuple #[.string Y, .int .i64 0] : Value) = _)
  ·have e1 : y.tmps[9]?.getD undef = .tuple #[.string Y, .int .i64 0] := hw 17 (of_decide_eq_true (by kernel_rfl))
   clear hf hw hn hbe
   refine aA (v := .string Y) (w' := w2) rfl rfl ?_ ⟨_, rfl, (fun h => by cases h), aC _ _, ?_⟩
   ·go_simp
   ·exact (rfl : (.string Y : Value) = _)
  ·have e1 : y.tmps[9]?.getD undef = .tuple #[.string Y, .int .i64 0] := hw 17 (of_decide_eq_true (by kernel_rfl))
   clear hf hw hn hbe
   refine aA (v := .int .i64 0) (w' := w2) rfl rfl ?_ ⟨_, rfl, (fun h => by cases h), aC _ _, ?_⟩
   ·go_simp
   ·exact (rfl : (.int .i64 0 : Value) = _)
  ·have e1 : y.tmps[27]?.getD undef = .string Y := hw 18 (of_decide_eq_true (by kernel_rfl))
   clear hf hw hn hbe
   refine aA (v := .string Y) (w' := w2) rfl rfl ?_ ⟨_, rfl, (fun h => by cases h), aC _ _, ?_⟩
   ·go_simp
   ·exact (rfl : (.string Y : Value) = _)
  ·have e1 : y.tmps[28]?.getD undef = .int .i64 0 := hw 19 (of_decide_eq_true (by kernel_rfl))
   clear hf hw hn hbe
   refine aA (v := .int .i64 0) (w' := w2) rfl rfl ?_ ⟨_, rfl, (fun h => by cases h), aC _ _, ?_⟩
   ·go_simp
   ·exact (rfl : (.int .i64 0 : Value) = _)
 case hchain =>
  intro m hm y w2 hf hw hch
  rcases (show m = 0 \/ m = 1 \/ m = 2 \/ m = 3 \/ m = 4 by omega) with rfl | rfl | rfl | rfl | rfl
  ·have hbe : Below w1.heap.size w1 w2 := hch
   clear hf hw hch
   change wpOp _ _ _ 0 _ _ _
   refine aA (v := .pointer (some ⟨w2.heap.size, 0, none⟩)) (w' := w2.alloc (.cells #[.pointer none, .int .i64 0, .int .i64 0] 149)) rfl rfl ?_ ⟨_, rfl, (fun h => by cases h), cP.of_none (bH (aC _ _) _), ⟨hbe.alloc hbe.size _, _, rfl, hbe.size, bF.new w2⟩, trivial⟩
   go_simp
  ·obtain ⟨hbe, g, hg, hgW, ho⟩ := hch
   have e1 : y.tmps[10]?.getD undef = .pointer (some ⟨g, 0, none⟩) := hg
   obtain ⟨b, e2, hbk⟩ : ∃ b, y.tmps[11]?.getD undef = .slice (some ⟨b, 0, none⟩) 1 1 /\ aG w2 b 3 #[.int .i64 6] := hw 1 (of_decide_eq_true (by kernel_rfl))
   clear hf hw hg
   change wpOp _ _ _ 2 _ _ _
   refine aP (f := 82) (args := #[.pointer (some ⟨g, 0, none⟩), .slice (some ⟨b, 0, none⟩) 1 1]) rfl rfl (by go_simp) ((oJ g _ _ 1 1 [6] w2 rfl (kD hbk) (by simp) HR6.out ho (by simp [pG])).mono ?_)
   rintro e w3 ⟨rfl, h3, hg3⟩
   exact ⟨_, rfl, _, rfl, (fun h => by cases h), ho.grownT' hg3, ⟨aH hbe hg3 hgW, g, rfl, hgW, h3⟩, trivial⟩
  ·obtain ⟨hbe, g, hg, hgW, ho⟩ := hch
   have e1 : y.tmps[12]?.getD undef = .pointer (some ⟨g, 0, none⟩) := hg
   obtain ⟨b, e2, hbk⟩ : ∃ b, y.tmps[17]?.getD undef = .slice (some ⟨b, 0, none⟩) 1 1 /\ aG w2 b 3 #[.int .i64 (n : Int)] := hw 7 (of_decide_eq_true (by kernel_rfl))
   clear hf hw hg
   change wpOp _ _ _ 8 _ _ _
   refine aP (f := 83) (args := #[.pointer (some ⟨g, 0, none⟩), .slice (some ⟨b, 0, none⟩) 1 1]) rfl rfl (by go_simp) ((mP g _ _ 1 1 [(n : Int)] w2 rfl (kD hbk) (by simp) HRN.out ho (by rw [S2.out]; simp [aL])).mono ?_)
   rintro e w3 ⟨rfl, h3, hg3⟩
   exact ⟨_, rfl, _, rfl, (fun h => by cases h), ho.grownT' hg3, ⟨aH hbe hg3 hgW, g, rfl, hgW, h3⟩, trivial⟩
  ·obtain ⟨hbe, g, hg, hgW, ho⟩ := hch
   have e1 : y.tmps[18]?.getD undef = .pointer (some ⟨g, 0, none⟩) := hg
   obtain ⟨b, e2, hbk⟩ : ∃ b, y.tmps[24]?.getD undef = .slice (some ⟨b, 0, none⟩) 1 1 /\ aG w2 b 9 #[.string B] := hw 14 (of_decide_eq_true (by kernel_rfl))
   clear hf hw hg
   change wpOp _ _ _ 15 _ _ _
   refine aP (f := 104) (args := #[.pointer (some ⟨g, 0, none⟩), .slice (some ⟨b, 0, none⟩) 1 1]) rfl rfl (by go_simp) ((Cv g _ _ 1 1 [B] w2 rfl (Gz hbk) (by simp) (by rw [eW, <- Lib.size_eq, HBE'.out]; omega) ho (by rw [S3.out]; simp [aL])).mono ?_)
   rintro e w3 ⟨rfl, h3, hg3⟩
   exact ⟨_, rfl, _, rfl, (fun h => by cases h), ho.grownT' hg3, ⟨aH hbe hg3 hgW, g, rfl, hgW, h3⟩, trivial⟩
  ·obtain ⟨hbe, g, hg, hgW, ho⟩ := hch
   have e1 : y.tmps[25]?.getD undef = .pointer (some ⟨g, 0, none⟩) := hg
   have HFIN := nE g _ w2 ho (by rw [S4.out]; exact Wr.ok_zero _) (by rw [S4.out]; have := HLE.out; show (lZ n H).length <= _; omega)
   rw [S4.out] at HFIN
   clear hf hw hg
   change wpOp _ _ _ 16 _ _ _
   refine aP (f := 85) (args := #[.pointer (some ⟨g, 0, none⟩)]) rfl rfl (by go_simp) (HFIN.mono ?_)
   rintro e w3 ⟨rfl, _, hb3⟩
   refine ⟨_, rfl, _, rfl, (fun h => by cases h), cP.of_none (cT hb3 (Nat.le_refl _)), hbe.trans (hb3.mono hbe.size), ?_⟩
   show _ = _
   rw [HYE.out]
   rfl
 case hK =>
  intro y w2 hf hv hch
  have hbe : Below w1.heap.size w1 w2 := hch
  have e4 : y.tmps[4]?.getD undef = .string Y := hv 20 (by omega)
  have e0 : y.tmps[0]? = some (.pointer (some ⟨g0, 0, none⟩)) := by rw [hf.2.2 0 (by decide)]; rfl
  have hd : y.defers = [] := hf.1
  have hsz : y.tmps.size = 34 := hf.2.1
  obtain ⟨tt, dd⟩ := y
  obtain rfl : dd = [] := hd
  have hsz : tt.size = 34 := hsz
  have e4' : tt[4]?.getD undef = .string Y := e4
  have HBE := Lib.hid hbe
  clear hf hv e4 e0 hbe hch
  obtain ⟨x0, x1, x2, x3, x4, x5, x6, x7, x8, x9, x10, x11, x12, x13, x14, x15, x16, x17, x18, x19, x20, x21, x22, x23, x24, x25, x26, x27, x28, x29, x30, x31, x32, x33, rfl⟩ := AP tt hsz
  obtain rfl : x4 = .string Y := by simpa using e4'
  clear e4' hsz
  go_wp2_with fail
  refine (HSEAL.out _ _ _ (jU _ _ _ _ rfl rfl)).mono ?_
  rintro e w4 ⟨rfl, hb4⟩
  have HB4 := Lib.hid hb4
  clear hb4
  go_wp2_with fail
  go_ret2
  exact ⟨rfl, (HBE.out.alloc HBE.out.size _).trans (HB4.out.mono (by have := HBE.out.size; simp; omega))⟩
theorem fC {a b : ByteArray} : (a.toList == b.toList) = decide (a = b) := by
 rw [Lib.toList_data, Lib.toList_data]
 by_cases h : a = b
 ·subst h; simp
 ·rw [decide_eq_false h]
  simp only [beq_eq_false_iff_ne, ne_eq]
  intro e
  exact h (ByteArray.ext (Array.toList_inj.1 e))
end Go.Proofs.YtingkbeifohihaaGreatDoor
