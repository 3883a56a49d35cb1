/-
  Package mark's small calls: Size, Valid, Hash; Go's own comparisons.
-/
import Derived.WalkKit
import Derived.Lib.Hide
import Derived.Lib.UnsafeStr
import Derived.Deep.Draws
import Derived.Shelf.Strings.Trim
import Derived.Shelf.Strings.BuilderK
import Derived.Shelf.LaysM
import Derived.Shelf.Strconv.Clone
import Derived.Shelf.Strings.Repeat
import Derived.Test.YtingkbeifohihaaGreatDoorProg
import Derived.Test.YtingkbeifohihaaGreatDoorMarkPure
import Derived.BigQuiet
import Derived.Deep.QuietTactic
import Derived.Outline
namespace Go.Proofs.YtingkbeifohihaaGreatDoor
open Go.RowKit
def aG (w : World) (g : Nat) (t : TypeId) (cs : Array Value) : Prop := w.heap[g]? = some (.cells cs t (0, 0))
section
variable {w w' w'' : World} {g : Nat} {t : TypeId} {cs : Array Value} {row : Option Nat}
theorem aG.lt (h : aG w g t cs) : g < w.heap.size := by
 rcases Nat.lt_or_ge g w.heap.size with hlt | hge
 ·exact hlt
 ·unfold aG at h; rw [Array.getElem?_eq_none hge] at h; cases h
theorem aG.cell (h : aG w g t cs) (i : Nat) : w.cell? ⟨g, i, none⟩ = cs[i]? := cell_of_row w g i cs t (0, 0) h
theorem aG.frozen (h : aG w g t cs) (i : Nat) : w.frozen? ⟨g, i, none⟩ = false := by
 unfold aG at h
 simp [World.frozen?, h]
theorem aG.new (w : World) (t : TypeId) (cs : Array Value) : aG (w.alloc (.cells cs t)) w.heap.size t cs := heap_alloc_new w _
theorem aG.alloc (h : aG w g t cs) (o : Obj) : aG (w.alloc o) g t cs := (Below.heap_alloc w o g h.lt).trans h
theorem aG.drew (h : aG w g t cs) : aG w.drew g t cs := h
theorem aG.drewN (h : aG w g t cs) (n : Nat) : aG (w.drewN n) g t cs := h
theorem aG.put (h : aG w g t cs) (i : Nat) (u : Value) : aG (w.setCell ⟨g, i, none⟩ u) g t (cs.setIfInBounds i u) := by
 unfold aG at h ⊢
 simp [World.setCell, Array.getElem?_modify, h]
theorem aG.far (h : aG w g t cs) {p : Addr} (hp : g ≠ p.block) (u : Value) : aG (w.setCell p u) g t cs := (Below.heap_setCell w p u g hp).trans h
theorem aG.below {B : Nat} (h : aG w g t cs) (hb : Below B w w') (hg : g < B) : aG w' g t cs := (hb.block g hg).trans h
theorem aG.grown (h : aG w g t cs) (hb : w.grownBy w' row) (hg : some g ≠ row) : aG w' g t cs := (hb.block g h.lt hg).trans h
theorem aC (w : World) (row : Option Nat) : w.grownBy w row := ⟨rfl, rfl, rfl, Nat.le_refl _, fun _ _ _ => rfl⟩
theorem dH (h : w.grownBy w' row) (k : w'.grownBy w'' row) : w.grownBy w'' row :=
 ⟨k.os.trans h.os, k.tape.trans h.tape, k.output.trans h.output, Nat.le_trans h.size k.size, fun i hi hr => (k.block i (Nat.lt_of_lt_of_le hi h.size) hr).trans (h.block i hi hr)⟩
theorem pK (h : w.grownBy w' row) : w.grownBy w'.drew row := ⟨h.os, h.tape, h.output, h.size, h.block⟩
theorem cY (h : w.grownBy w' row) (n : Nat) : w.grownBy (w'.drewN n) row := ⟨h.os, h.tape, h.output, h.size, h.block⟩
theorem bH (h : w.grownBy w' row) (o : Obj) : w.grownBy (w'.alloc o) row :=
 dH h ⟨rfl, rfl, rfl, by simp, fun k hk _ => Below.heap_alloc _ _ _ hk⟩
theorem jK (h : w.grownBy w' (some g)) (i : Nat) (u : Value) : w.grownBy (w'.setCell ⟨g, i, none⟩ u) (some g) :=
 dH h ⟨rfl, rfl, rfl, by simp [World.setCell], fun k _ hr => Below.heap_setCell _ _ _ _ (fun e => hr (by rw [e]))⟩
theorem cT {B : Nat} (hb : Below B w w') (hB : w.heap.size <= B) : w.grownBy w' row :=
 ⟨hb.os, hb.tape, hb.output, hb.size, fun k hk _ => hb.block k (by omega)⟩
theorem Rf (h : w.grownBy w' none) : w.grownBy w' row := ⟨h.os, h.tape, h.output, h.size, fun i hi _ => h.block i hi (by simp)⟩
theorem fH (h : w.grownBy w' none) : Below w.heap.size w w' := ⟨h.os, h.tape, h.output, h.size, fun i hi => h.block i hi (by simp)⟩
theorem aH {g' : Nat} {w0 : World} (h : Below w0.heap.size w0 w) (k : w.grownBy w' (some g')) (hg : w0.heap.size <= g') : Below w0.heap.size w0 w' :=
 ⟨k.os.trans h.os, k.tape.trans h.tape, k.output.trans h.output, Nat.le_trans h.size k.size, fun i hi => (k.block i (Nat.lt_of_lt_of_le hi h.size) (fun e => by injection e; omega)).trans (h.block i hi)⟩
end
open Go.Shelf Go.RowKit
def Dy : Go.Shelf.Ren := ⟨fun | 161 => 190 | 231 => 191 | 227 => 193 | 233 => 194 | 235 => 196 | 228 => 210 | 197 => 211 | 151 => 212 | 260 => 216 | 152 => 217 | 137 => 228 | 119 => 229 | 224 => 230 | 225 => 231 | 217 => 235 | 266 => 237 | n => n, fun | 9 => 9 | 4 => 4 | 3 => 3 | 5 => 5 | 117 => 251 | 116 => 250 | 0 => 0 | 124 => 254 | 105 => 266 | 21 => 21 | 119 => 277 | 46 => 137 | 139 => 280 | 138 => 279 | n => n, fun | 3 => 1 | 4 => 2 | n => n⟩
theorem Vx : Go.Proofs.Lays.n161 Tryz.prog Dy := {
 mixed := by kernel_rfl
 f119 := Tryz.func229.trans (congrArg some (by kernel_rfl))
 f137 := Tryz.func228.trans (congrArg some (by kernel_rfl))
 f151 := Tryz.func212.trans (congrArg some (by kernel_rfl))
 f152 := Tryz.func217.trans (congrArg some (by kernel_rfl))
 f161 := Tryz.func190.trans (congrArg some (by kernel_rfl))
 f197 := Tryz.func211.trans (congrArg some (by kernel_rfl))
 f217 := Tryz.func235.trans (congrArg some (by kernel_rfl))
 f224 := Tryz.func230.trans (congrArg some (by kernel_rfl))
 f225 := Tryz.func231.trans (congrArg some (by kernel_rfl))
 f227 := Tryz.func193.trans (congrArg some (by kernel_rfl))
 f228 := Tryz.func210.trans (congrArg some (by kernel_rfl))
 f231 := Tryz.func191.trans (congrArg some (by kernel_rfl))
 f233 := Tryz.func194.trans (congrArg some (by kernel_rfl))
 f235 := Tryz.func196.trans (congrArg some (by kernel_rfl))
 f260 := Tryz.func216.trans (congrArg some (by kernel_rfl))
 f266 := Tryz.func237.trans (congrArg some (by kernel_rfl))
 t0 := Tryz.underlying0
 a0 := Tryz.isAgg0
 z0 := Tryz.sizeOf0
 v0 := Tryz.zeroValue0
 t3 := Tryz.underlying3
 a3 := Tryz.isAgg3
 z3 := Tryz.sizeOf3
 v3 := Tryz.zeroValue3
 t4 := Tryz.underlying4
 a4 := Tryz.isAgg4
 z4 := Tryz.sizeOf4
 v4 := Tryz.zeroValue4
 t5 := Tryz.underlying5
 a5 := Tryz.isAgg5
 z5 := Tryz.sizeOf5
 v5 := Tryz.zeroValue5
 t9 := Tryz.underlying9
 a9 := Tryz.isAgg9
 z9 := Tryz.sizeOf9
 v9 := Tryz.zeroValue9
 t21 := Tryz.underlying21
 a21 := Tryz.isAgg21
 z21 := Tryz.sizeOf21
 v21 := Tryz.zeroValue21
 t46 := Tryz.underlying137
 a46 := Tryz.isAgg137
 z46 := Tryz.sizeOf137
 v46 := Tryz.zeroValue137
 t105 := Tryz.underlying266
 a105 := Tryz.isAgg266
 z105 := Tryz.sizeOf266
 v105 := Tryz.zeroValue266
 t116 := Tryz.underlying250
 a116 := Tryz.isAgg250
 z116 := Tryz.sizeOf250
 t117 := Tryz.underlying251
 a117 := Tryz.isAgg251
 z117 := Tryz.sizeOf251
 v117 := Tryz.zeroValue251
 t119 := Tryz.underlying277
 a119 := Tryz.isAgg277
 z119 := Tryz.sizeOf277
 t124 := Tryz.underlying254
 a124 := Tryz.isAgg254
 z124 := Tryz.sizeOf254
 v124 := Tryz.zeroValue254
 t138 := Tryz.underlying279
 a138 := Tryz.isAgg279
 z138 := Tryz.sizeOf279
 v138 := Tryz.zeroValue279
 t139 := Tryz.underlying280
 a139 := Tryz.isAgg280
 z139 := Tryz.sizeOf280
 v139 := Tryz.zeroValue280
 g3 := by kernel_rfl
 g4 := by kernel_rfl }
def Cl : Go.Shelf.Ren := ⟨fun | 316 => 143 | n => n, fun | 9 => 9 | 3 => 3 | 4 => 4 | 37 => 79 | 0 => 0 | 127 => 131 | 5 => 5 | n => n, fun | n => n⟩
theorem Rg : Go.Proofs.LaysM.n316 Tryz.prog Cl := {
 mixed := by kernel_rfl
 f316 := Tryz.func143.trans (congrArg some (by kernel_rfl))
 t0 := Tryz.underlying0
 a0 := Tryz.isAgg0
 z0 := Tryz.sizeOf0
 v0 := Tryz.zeroValue0
 t3 := Tryz.underlying3
 a3 := Tryz.isAgg3
 z3 := Tryz.sizeOf3
 v3 := Tryz.zeroValue3
 t4 := Tryz.underlying4
 a4 := Tryz.isAgg4
 z4 := Tryz.sizeOf4
 v4 := Tryz.zeroValue4
 t9 := Tryz.underlying9
 a9 := Tryz.isAgg9
 z9 := Tryz.sizeOf9
 v9 := Tryz.zeroValue9
 t37 := Tryz.underlying79
 a37 := Tryz.isAgg79
 z37 := Tryz.sizeOf79
 v37 := Tryz.zeroValue79
 t127 := Tryz.underlying131
 a127 := Tryz.isAgg131
 z127 := Tryz.sizeOf131
 v127 := Tryz.zeroValue131
 t5 := Tryz.underlying5
 a5 := Tryz.isAgg5
 z5 := Tryz.sizeOf5
 v5 := Tryz.zeroValue5
 i0 := by kernel_rfl
 i3 := by kernel_rfl
 i4 := by kernel_rfl
 i5 := by kernel_rfl
 i9 := by kernel_rfl
 i37 := by kernel_rfl
 i127 := by kernel_rfl }
def tZ : Go.Shelf.Ren := ⟨fun | 105 => 50 | 212 => 87 | 99 => 88 | 165 => 58 | 166 => 34 | 170 => 89 | 169 => 35 | 263 => 132 | 264 => 133 | 206 => 134 | 240 => 70 | 241 => 100 | 276 => 119 | 277 => 148 | n => n, fun | 9 => 9 | 3 => 3 | 4 => 4 | 20 => 20 | 0 => 0 | 46 => 137 | 109 => 153 | 5 => 5 | 72 => 81 | 76 => 86 | 51 => 132 | 146 => 187 | 53 => 91 | 148 => 189 | 70 => 78 | 37 => 79 | 75 => 85 | 127 => 131 | 164 => 174 | 80 => 88 | n => n, fun | n => n⟩
theorem Li : Go.Proofs.Lays.n105 Tryz.prog tZ := {
 mixed := by kernel_rfl
 f99 := Tryz.func88.trans (congrArg some (by kernel_rfl))
 f105 := Tryz.func50.trans (congrArg some (by kernel_rfl))
 f165 := Tryz.func58.trans (congrArg some (by kernel_rfl))
 f166 := Tryz.func34.trans (congrArg some (by kernel_rfl))
 f169 := Tryz.func35.trans (congrArg some (by kernel_rfl))
 f170 := Tryz.func89.trans (congrArg some (by kernel_rfl))
 f206 := Tryz.func134.trans (congrArg some (by kernel_rfl))
 f212 := Tryz.func87.trans (congrArg some (by kernel_rfl))
 f240 := Tryz.func70.trans (congrArg some (by kernel_rfl))
 f241 := Tryz.func100.trans (congrArg some (by kernel_rfl))
 f263 := Tryz.func132.trans (congrArg some (by kernel_rfl))
 f264 := Tryz.func133.trans (congrArg some (by kernel_rfl))
 f276 := Tryz.func119.trans (congrArg some (by kernel_rfl))
 f277 := Tryz.func148.trans (congrArg some (by kernel_rfl))
 t0 := Tryz.underlying0
 a0 := Tryz.isAgg0
 z0 := Tryz.sizeOf0
 v0 := Tryz.zeroValue0
 t3 := Tryz.underlying3
 a3 := Tryz.isAgg3
 z3 := Tryz.sizeOf3
 v3 := Tryz.zeroValue3
 t4 := Tryz.underlying4
 a4 := Tryz.isAgg4
 z4 := Tryz.sizeOf4
 v4 := Tryz.zeroValue4
 t5 := Tryz.underlying5
 a5 := Tryz.isAgg5
 z5 := Tryz.sizeOf5
 v5 := Tryz.zeroValue5
 t9 := Tryz.underlying9
 a9 := Tryz.isAgg9
 z9 := Tryz.sizeOf9
 v9 := Tryz.zeroValue9
 t20 := Tryz.underlying20
 a20 := Tryz.isAgg20
 z20 := Tryz.sizeOf20
 v20 := Tryz.zeroValue20
 t37 := Tryz.underlying79
 a37 := Tryz.isAgg79
 z37 := Tryz.sizeOf79
 v37 := Tryz.zeroValue79
 t46 := Tryz.underlying137
 a46 := Tryz.isAgg137
 z46 := Tryz.sizeOf137
 v46 := Tryz.zeroValue137
 t51 := Tryz.underlying132
 a51 := Tryz.isAgg132
 z51 := Tryz.sizeOf132
 v51 := Tryz.zeroValue132
 t53 := Tryz.underlying91
 a53 := Tryz.isAgg91
 z53 := Tryz.sizeOf91
 v53 := Tryz.zeroValue91
 t70 := Tryz.underlying78
 a70 := Tryz.isAgg78
 z70 := Tryz.sizeOf78
 v70 := Tryz.zeroValue78
 t72 := Tryz.underlying81
 a72 := Tryz.isAgg81
 z72 := Tryz.sizeOf81
 v72 := Tryz.zeroValue81
 t75 := Tryz.underlying85
 a75 := Tryz.isAgg85
 z75 := Tryz.sizeOf85
 v75 := Tryz.zeroValue85
 t76 := Tryz.underlying86
 a76 := Tryz.isAgg86
 z76 := Tryz.sizeOf86
 v76 := Tryz.zeroValue86
 t109 := Tryz.underlying153
 a109 := Tryz.isAgg153
 z109 := Tryz.sizeOf153
 v109 := Tryz.zeroValue153
 t127 := Tryz.underlying131
 a127 := Tryz.isAgg131
 z127 := Tryz.sizeOf131
 v127 := Tryz.zeroValue131
 t146 := Tryz.underlying187
 a146 := Tryz.isAgg187
 z146 := Tryz.sizeOf187
 v146 := Tryz.zeroValue187
 t148 := Tryz.underlying189
 a148 := Tryz.isAgg189
 z148 := Tryz.sizeOf189
 v148 := Tryz.zeroValue189
 t164 := Tryz.underlying174
 a164 := Tryz.isAgg174
 z164 := Tryz.sizeOf174
 v164 := Tryz.zeroValue174 }
theorem rK : Builder.Extra Tryz.prog tZ := {
 sizeBuilder := by kernel_rfl
 liesBuilder := by kernel_rfl
 t5 := Tryz.underlying5
 a5 := Tryz.isAgg5
 z5 := Tryz.sizeOf5
 v5 := Tryz.zeroValue5
 infoByte := by kernel_rfl
 cellsByte := by kernel_rfl
 sizeByte := by kernel_rfl
 neB5 := by decide }
def wQ : Go.Shelf.Ren := ⟨fun | 166 => 34 | 169 => 35 | 240 => 70 | 276 => 119 | n => n, fun | 0 => 0 | 3 => 3 | 4 => 4 | 5 => 5 | 9 => 9 | 20 => 20 | 37 => 79 | 70 => 78 | 72 => 81 | 75 => 85 | 80 => 88 | 127 => 131 | 164 => 174 | n => n, fun | n => n⟩
def Dz : Go.Shelf.Ren := ⟨fun | 167 => 127 | 240 => 70 | 276 => 119 | n => n, fun | 0 => 0 | 3 => 3 | 4 => 4 | 5 => 5 | 9 => 9 | 20 => 20 | 37 => 79 | 70 => 78 | 72 => 81 | 75 => 85 | 80 => 88 | 127 => 131 | 164 => 174 | n => n, fun | n => n⟩
theorem Vy : Go.Proofs.Lays.n166 Tryz.prog wQ := {
 mixed := by kernel_rfl
 f166 := Tryz.func34.trans (congrArg some (by kernel_rfl))
 f240 := Tryz.func70.trans (congrArg some (by kernel_rfl))
 f276 := Tryz.func119.trans (congrArg some (by kernel_rfl))
 t0 := Tryz.underlying0
 a0 := Tryz.isAgg0
 z0 := Tryz.sizeOf0
 v0 := Tryz.zeroValue0
 t3 := Tryz.underlying3
 a3 := Tryz.isAgg3
 z3 := Tryz.sizeOf3
 v3 := Tryz.zeroValue3
 t4 := Tryz.underlying4
 a4 := Tryz.isAgg4
 z4 := Tryz.sizeOf4
 v4 := Tryz.zeroValue4
 t9 := Tryz.underlying9
 a9 := Tryz.isAgg9
 z9 := Tryz.sizeOf9
 v9 := Tryz.zeroValue9
 t20 := Tryz.underlying20
 a20 := Tryz.isAgg20
 z20 := Tryz.sizeOf20
 v20 := Tryz.zeroValue20
 t37 := Tryz.underlying79
 a37 := Tryz.isAgg79
 z37 := Tryz.sizeOf79
 v37 := Tryz.zeroValue79
 t70 := Tryz.underlying78
 a70 := Tryz.isAgg78
 z70 := Tryz.sizeOf78
 v70 := Tryz.zeroValue78
 t72 := Tryz.underlying81
 a72 := Tryz.isAgg81
 z72 := Tryz.sizeOf81
 v72 := Tryz.zeroValue81
 t75 := Tryz.underlying85
 a75 := Tryz.isAgg85
 z75 := Tryz.sizeOf85
 v75 := Tryz.zeroValue85
 t164 := Tryz.underlying174
 a164 := Tryz.isAgg174
 z164 := Tryz.sizeOf174
 v164 := Tryz.zeroValue174 }
theorem Vz : Go.Proofs.Lays.n167 Tryz.prog Dz := {
 mixed := by kernel_rfl
 f167 := Tryz.func127.trans (congrArg some (by kernel_rfl))
 f240 := Tryz.func70.trans (congrArg some (by kernel_rfl))
 f276 := Tryz.func119.trans (congrArg some (by kernel_rfl))
 t0 := Tryz.underlying0
 a0 := Tryz.isAgg0
 z0 := Tryz.sizeOf0
 v0 := Tryz.zeroValue0
 t4 := Tryz.underlying4
 a4 := Tryz.isAgg4
 z4 := Tryz.sizeOf4
 v4 := Tryz.zeroValue4
 t5 := Tryz.underlying5
 a5 := Tryz.isAgg5
 z5 := Tryz.sizeOf5
 v5 := Tryz.zeroValue5
 t9 := Tryz.underlying9
 a9 := Tryz.isAgg9
 z9 := Tryz.sizeOf9
 v9 := Tryz.zeroValue9
 t20 := Tryz.underlying20
 a20 := Tryz.isAgg20
 z20 := Tryz.sizeOf20
 v20 := Tryz.zeroValue20
 t37 := Tryz.underlying79
 a37 := Tryz.isAgg79
 z37 := Tryz.sizeOf79
 v37 := Tryz.zeroValue79
 t70 := Tryz.underlying78
 a70 := Tryz.isAgg78
 z70 := Tryz.sizeOf78
 v70 := Tryz.zeroValue78
 t72 := Tryz.underlying81
 a72 := Tryz.isAgg81
 z72 := Tryz.sizeOf81
 v72 := Tryz.zeroValue81
 t75 := Tryz.underlying85
 a75 := Tryz.isAgg85
 z75 := Tryz.sizeOf85
 v75 := Tryz.zeroValue85
 t164 := Tryz.underlying174
 a164 := Tryz.isAgg174
 z164 := Tryz.sizeOf174
 v164 := Tryz.zeroValue174 }
theorem Wa : Go.Proofs.Lays.n169 Tryz.prog wQ := {
 mixed := by kernel_rfl
 f169 := Tryz.func35.trans (congrArg some (by kernel_rfl))
 t0 := Tryz.underlying0
 a0 := Tryz.isAgg0
 z0 := Tryz.sizeOf0
 v0 := Tryz.zeroValue0
 t3 := Tryz.underlying3
 a3 := Tryz.isAgg3
 z3 := Tryz.sizeOf3
 v3 := Tryz.zeroValue3
 t9 := Tryz.underlying9
 a9 := Tryz.isAgg9
 z9 := Tryz.sizeOf9
 v9 := Tryz.zeroValue9
 t37 := Tryz.underlying79
 a37 := Tryz.isAgg79
 z37 := Tryz.sizeOf79
 v37 := Tryz.zeroValue79
 t70 := Tryz.underlying78
 a70 := Tryz.isAgg78
 z70 := Tryz.sizeOf78
 v70 := Tryz.zeroValue78
 t72 := Tryz.underlying81
 a72 := Tryz.isAgg81
 z72 := Tryz.sizeOf81
 v72 := Tryz.zeroValue81
 t127 := Tryz.underlying131
 a127 := Tryz.isAgg131
 z127 := Tryz.sizeOf131
 v127 := Tryz.zeroValue131 }
theorem wR : Builder.Extra Tryz.prog wQ := {
 sizeBuilder := by kernel_rfl
 liesBuilder := by kernel_rfl
 t5 := Tryz.underlying5
 a5 := Tryz.isAgg5
 z5 := Tryz.sizeOf5
 v5 := Tryz.zeroValue5
 infoByte := by kernel_rfl
 cellsByte := by kernel_rfl
 sizeByte := by kernel_rfl
 neB5 := by decide }
theorem Hm : Builder.Extra Tryz.prog Dz := {
 sizeBuilder := by kernel_rfl
 liesBuilder := by kernel_rfl
 t5 := Tryz.underlying5
 a5 := Tryz.isAgg5
 z5 := Tryz.sizeOf5
 v5 := Tryz.zeroValue5
 infoByte := by kernel_rfl
 cellsByte := by kernel_rfl
 sizeByte := by kernel_rfl
 neB5 := by decide }
theorem Mi (s : ByteArray) (c : UInt8) (hc : c.toNat < 128) (w : World) :
  Calls Tryz.prog 190 #[.string s, .string ⟨#[c]⟩] w fun e w' => e = .returned (.string ⟨(Lib.trimLeftB s.data.toList c).toArray⟩) /\ w' = w := Any.strings_TrimLeft_one Vx s c hc w
theorem Hn (s : ByteArray) (w : World) (hlim : s.size <= 281474976710656) :
  Calls Tryz.prog 143 #[.string s] w fun e w' => e = .returned (.string s) /\ Below w.heap.size w w' := Any.stringslite_Clone Rg s w hlim
theorem qL (s : ByteArray) (c : Nat) (w : World) (hc : c <= 9223372036854775807) (hlen : s.size * c <= 140737488355328) :
  Calls Tryz.prog 50 #[.string s, .int .i64 c] w fun e w' => e = .returned (.string ⟨(Lib.repeatL s.data.toList c).toArray⟩) /\ Below w.heap.size w w' := Any.strings_Repeat Li rK s c w hc hlen
theorem Lj (B b : Nat) (bs : List Value) (c : Int) (w : World) (h : Lib.IsBuilderF 81 5 B b bs w) (hlen : bs.length + 1 <= 140737488355328) (hBw : B <= w.heap.size) :
  Calls Tryz.prog 127 #[.pointer (some ⟨b, 0, none⟩), .int .u8 c] w fun e w' => e = .returned .nilIface /\ (Lib.BuilderAtF 81 5 B b (.pointer (some ⟨b, 0, none⟩)) (bs ++ [.int .u8 c]) w' /\ Below B w w' /\ Lib.OthersKept 5 (some b) w w') :=
 Any.Builder_WriteByte_k Vz Hm B b bs c w h hlen hBw
theorem tG (B b : Nat) (bs : List Value) (s : ByteArray) (w : World) (h : Lib.IsBuilderF 81 5 B b bs w) (hlen : bs.length + s.size <= 140737488355328) (hBw : B <= w.heap.size) :
  Calls Tryz.prog 34 #[.pointer (some ⟨b, 0, none⟩), .string s] w fun e w' => e = .returned (.tuple #[.int .i64 s.size, .nilIface]) /\ (Lib.BuilderAtF 81 5 B b (.pointer (some ⟨b, 0, none⟩)) (bs ++ Lib.strCells s) w' /\ Below B w w' /\ Lib.OthersKept 5 (some b) w w') :=
 Any.Builder_WriteString_k Vy wR B b bs s w h hlen hBw
theorem Cm (B b : Nat) (l : List UInt8) (w : World) (h : Lib.IsBuilderF 81 5 B b (Lib.byteCells l) w) (hBw : B <= w.heap.size) :
  Calls Tryz.prog 35 #[.pointer (some ⟨b, 0, none⟩)] w fun e w' => e = .returned (.string ⟨l.toArray⟩) /\ (Lib.IsBuilderF 81 5 B b (Lib.byteCells l) w' /\ Below B w w' /\ Lib.OthersKept 5 (some b) w w') :=
 Any.Builder_String_any_k Wa wR B b l w h hBw
set_option maxHeartbeats 1000000
def bP (w : World) (g : Nat) (s : Rd) : Prop := aG w g 223 #[.string s.b, .int .i64 s.e]
theorem lL (g : Nat) (s : Rd) (c : Int) (w : World) (h : bP w g s) (he : s.e = 0) :
  Calls Tryz.prog 170 #[.pointer (some ⟨g, 0, none⟩), .int .i64 c] w fun e w' => e = .returned (.tuple #[]) /\ bP w' g ⟨.empty, c⟩ /\ w.grownBy w' (some g) := by
 obtain ⟨b, e⟩ := s
 simp only at he
 subst he
 have c0 := aG.cell h 0
 have c1 := aG.cell h 1
 have f0 := aG.frozen h 0
 have f1 := aG.frozen h 1
 have hl := aG.lt h
 simp at c0 c1
 go_enter Tryz.func170, Tryz.ntmps170
 go_wp2
 go_end0
 exact ⟨rfl, (aG.put h 0 _).put 1 _, jK (jK (aC _ _) _ _) _ _⟩
theorem wP (g : Nat) (s : Rd) (n : Int) (w : World) (h : bP w g s) (hb : s.b.size <= 140737488351232) :
  Calls Tryz.prog 189 #[.pointer (some ⟨g, 0, none⟩), .int .i64 n] w fun e w' =>
   e = .returned (.tuple #[.string (s.take n).1, .bool (s.take n).2.1]) /\ bP w' g (s.take n).2.2 /\ w.grownBy w' (some g) := by
 have H := h
 obtain ⟨b, e⟩ := s
 have c0 := aG.cell h 0
 have c1 := aG.cell h 1
 have f0 := aG.frozen h 0
 have f1 := aG.frozen h 1
 have hl := aG.lt h
 simp at c0 c1 hb
 by_cases he : e = 0
 ·subst he
  by_cases h0 : n < 0
  ·have R : (Rd.mk b 0).take n = (.empty, false, ⟨.empty, 1⟩) := by simp [Rd.take, h0]
   rw [R]
   clear R
   go_enter Tryz.func189, Tryz.ntmps189
   go_wp2_with (go_at_call 170; refine (lL g _ 1 _ h rfl).mono ?_; rintro e w1 ⟨rfl, h1, hg1⟩)
   go_ret2
   exact ⟨rfl, h1, hg1⟩
  ·have h0' : 0 <= n := by omega
   by_cases h1 : (b.size : Int) < n
   ·have R : (Rd.mk b 0).take n = (.empty, false, ⟨.empty, 5⟩) := by simp [Rd.take, h0, h1]
    rw [R]
    clear R h0
    go_enter Tryz.func189, Tryz.ntmps189
    go_wp2_with (go_at_call 170; refine (lL g _ 5 _ h rfl).mono ?_; rintro e w1 ⟨rfl, h1, hg1⟩)
    go_ret2
    exact ⟨rfl, h1, hg1⟩
   ·have h1' : n <= (b.size : Int) := by omega
    have R : (Rd.mk b 0).take n = (b.extract 0 n.toNat, true, ⟨b.extract n.toNat b.size, 0⟩) := by simp [Rd.take, h0, h1]
    rw [R]
    clear R h0 h1
    go_enter Tryz.func189, Tryz.ntmps189
    go_wp2_with fail
    go_ret2
    exact ⟨rfl, aG.put h 0 _, jK (aC _ _) _ _⟩
 ·have R : (Rd.mk b e).take n = (.empty, false, ⟨b, e⟩) := by simp [Rd.take, he]
  rw [R]
  clear R
  have hc : (e != 0) = true := by rw [bne_iff_ne]; exact he
  go_enter Tryz.func189, Tryz.ntmps189
  go_wp2_with fail
  go_ret2
  exact ⟨rfl, h, aC _ _⟩
theorem Re {x : ByteArray} {j k : Nat} (hs : x.size = k) (hj : j < k) (hk : k <= 8) :
  bits .or .u64 (oC (x.data.toList.take j) : Int) (IntKind.u64.wrap (IntKind.u64.wrap ((x[j]'(by omega)).toNat : Int) * 2 ^ (8 * j))) = (oC (x.data.toList.take (j + 1)) : Int) := by
 have hl : (x.data.toList.take j).length = j := by
  rw [List.length_take, Array.length_toList]
  have : x.data.size = k := hs
  omega
 rw [Yv _ _ j hl (by omega)]
 congr 2
 rw [List.take_succ_eq_append_getElem (by rw [Array.length_toList]; have : x.data.size = k := hs; omega)]
 rfl
theorem mX (g : Nat) (s : Rd) (k : Nat) (w : World) (h : bP w g s) (hb : s.b.size <= 140737488351232) (hk : k <= 8) :
  Calls Tryz.prog 167 #[.pointer (some ⟨g, 0, none⟩), .int .i64 k] w fun e w' =>
   e = .returned (.int .i64 (s.num k).1) /\ bP w' g (s.num k).2 /\ w.grownBy w' (some g) := by
 by_cases ht : (s.take k).2.1 = true
 ·have hsz := Rd.take_size ht
  have h0 : (s.take k).2.2.e = 0 := by rw [(Rd.take_yes ht).2.2.2.2]
  have hL : oC (s.take k).1.data.toList < 18446744073709551616 :=
   Nat.lt_of_lt_of_le (Cj _) (by rw [Array.length_toList]; exact Nat.le_trans (Nat.pow_le_pow_right (by omega) (show (s.take k).1.data.size <= 8 from by have : (s.take k).1.data.size = k := hsz; omega)) (by decide))
  have Hnum : Hid (s.num k = (if 9223372036854775807 < (oC (s.take k).1.data.toList : Int) then (0, ⟨.empty, 6⟩) else ((oC (s.take k).1.data.toList : Int), (s.take k).2.2))) := Lib.hid (by unfold Rd.num; rw [if_pos ht])
  have H0 := Lib.hid h0
  clear h0
  go_enter Tryz.func167, Tryz.ntmps167
  go_wp2_with (go_at_call 189; refine (wP g s k _ h hb).mono ?_; rintro e w1 ⟨rfl, h1, hg1⟩)
  generalize (s.take k).1 = x at *
  generalize (s.take k).2.2 = s1 at *
  have Hsz := Lib.hid hsz
  have hsz1 : x.size <= k := by omega
  have hsz2 : k <= x.size := by omega
  clear hsz
  go_loop [7, 18] (fun n i => ∃ j : Nat, j <= k /\ i = .int .i64 j /\ n = .int .u64 (oC (x.data.toList.take j))) (fun _ i => k - (intOf i).toNat)
  case atStart => exact ⟨0, Nat.zero_le _, rfl, rfl⟩
  case round =>
   obtain ⟨j, hj, rfl, rfl⟩ := hrel
   by_cases hlt : j < k
   ·go_wp2
    go_round
    case rel => exact ⟨j + 1, by omega, by go_num, by rw [Re Hsz.out hlt hk]⟩
    case measure => simp [intOf]; omega
   ·have hjk : x.data.toList.take j = x.data.toList := List.take_of_length_le (by rw [Array.length_toList]; show x.size <= j; omega)
    rw [hjk]
    clear hjk
    generalize hV : oC x.data.toList = V at *
    have HV := Lib.hid hV
    clear hV
    by_cases hbig : 9223372036854775807 < (V : Int)
    ·go_wp2_with (go_at_call 170; refine (lL g s1 6 _ h1 H0.out).mono ?_; rintro e w2 ⟨rfl, h2, hg2⟩)
     go_ret
     rw [Hnum.out, if_pos hbig]
     exact ⟨rfl, h2, dH hg1 hg2⟩
    ·go_wp2_with fail
     go_ret
     rw [Hnum.out, if_neg (by omega)]
     exact ⟨rfl, h1, hg1⟩
 ·have Hnum : Hid (s.num k = (0, (s.take k).2.2)) := Lib.hid (by unfold Rd.num; rw [if_neg ht])
  have hf : (s.take k).2.1 = false := by simpa using ht
  go_enter Tryz.func167, Tryz.ntmps167
  go_wp2_with (go_at_call 189; refine (wP g s k _ h hb).mono ?_; rintro e w1 ⟨rfl, h1, hg1⟩)
  go_ret
  rw [Hnum.out]
  exact ⟨rfl, h1, hg1⟩
theorem lM (g : Nat) (s : Rd) (w : World) (h : bP w g s) (hb : s.b.size <= 140737488351232) :
  Calls Tryz.prog 115 #[.pointer (some ⟨g, 0, none⟩)] w fun e w' => e = .returned (.int .i64 (s.num 1).1) /\ bP w' g (s.num 1).2 /\ w.grownBy w' (some g) := by
 go_enter Tryz.func115, Tryz.ntmps115
 go_wp2_with (go_at_call 167; refine (mX g s 1 _ h hb (by omega)).mono ?_; rintro e w1 ⟨rfl, h1, hg1⟩)
 go_ret
 exact ⟨rfl, h1, hg1⟩
theorem mY (g : Nat) (s : Rd) (w : World) (h : bP w g s) (hb : s.b.size <= 140737488351232) :
  Calls Tryz.prog 116 #[.pointer (some ⟨g, 0, none⟩)] w fun e w' => e = .returned (.int .i64 (s.num 2).1) /\ bP w' g (s.num 2).2 /\ w.grownBy w' (some g) := by
 go_enter Tryz.func116, Tryz.ntmps116
 go_wp2_with (go_at_call 167; refine (mX g s 2 _ h hb (by omega)).mono ?_; rintro e w1 ⟨rfl, h1, hg1⟩)
 go_ret
 exact ⟨rfl, h1, hg1⟩
theorem Vv (g : Nat) (s : Rd) (w : World) (h : bP w g s) (hb : s.b.size <= 140737488351232) :
  Calls Tryz.prog 166 #[.pointer (some ⟨g, 0, none⟩)] w fun e w' => e = .returned (.int .i64 (s.num 4).1) /\ bP w' g (s.num 4).2 /\ w.grownBy w' (some g) := by
 go_enter Tryz.func166, Tryz.ntmps166
 go_wp2_with (go_at_call 167; refine (mX g s 4 _ h hb (by omega)).mono ?_; rintro e w1 ⟨rfl, h1, hg1⟩)
 go_ret
 exact ⟨rfl, h1, hg1⟩
theorem Lg (g : Nat) (s : Rd) (w : World) (h : bP w g s) (hb : s.b.size <= 140737488351232) :
  Calls Tryz.prog 198 #[.pointer (some ⟨g, 0, none⟩)] w fun e w' => e = .returned (.int .i64 (s.num 8).1) /\ bP w' g (s.num 8).2 /\ w.grownBy w' (some g) := by
 go_enter Tryz.func198, Tryz.ntmps198
 go_wp2_with (go_at_call 167; refine (mX g s 8 _ h hb (by omega)).mono ?_; rintro e w1 ⟨rfl, h1, hg1⟩)
 go_ret
 exact ⟨rfl, h1, hg1⟩
theorem iK (s : ByteArray) (w : World) (hlim : s.size <= 281474976710656) :
  Calls Tryz.prog 97 #[.string s] w fun e w' => e = .returned (.string s) /\ Below w.heap.size w w' := by
 go_enter Tryz.func97, Tryz.ntmps97
 go_wp2_with (go_at_call 143; refine (Hn s _ hlim).mono ?_; rintro e w1 ⟨rfl, hb1⟩)
 go_ret
 exact ⟨rfl, hb1⟩
theorem Yw (g : Nat) (s : Rd) (n : Int) (w : World) (h : bP w g s) (hb : s.b.size <= 140737488351232) :
  Calls Tryz.prog 168 #[.pointer (some ⟨g, 0, none⟩), .int .i64 n] w fun e w' => e = .returned (.string (s.raw n).1) /\ bP w' g (s.raw n).2 /\ w.grownBy w' (some g) := by
 have hsz : (s.take n).1.size <= 281474976710656 := by have := (s.size_take n).2; omega
 go_enter Tryz.func168, Tryz.ntmps168
 go_wp2_with (first
  | (go_at_call 189; refine (wP g s n _ h hb).mono ?_; rintro e w1 ⟨rfl, h1, hg1⟩)
  | (go_at_call 97; refine (iK (s.take n).1 _ hsz).mono ?_; rintro e w2 ⟨rfl, hb2⟩))
 go_ret
 exact ⟨rfl, aG.below h1 hb2 (aG.lt h1), dH hg1 (cT hb2 (Nat.le_refl _))⟩
theorem Vw (g : Nat) (s : Rd) (w : World) (h : bP w g s) (hb : s.b.size <= 140737488351232) :
  Calls Tryz.prog 117 #[.pointer (some ⟨g, 0, none⟩)] w fun e w' => e = .returned (.string s.text.1) /\ bP w' g s.text.2 /\ w.grownBy w' (some g) := by
 have hb2 : (s.num 2).2.b.size <= 140737488351232 := by have := s.size_num 2; omega
 go_enter Tryz.func117, Tryz.ntmps117
 go_wp2_with (first
  | (go_at_call 116; refine (mY g s _ h hb).mono ?_; rintro e w1 ⟨rfl, h1, hg1⟩)
  | (go_at_call 168; refine (Yw g (s.num 2).2 (s.num 2).1 _ h1 hb2).mono ?_; rintro e w2 ⟨rfl, h2, hg2⟩))
 go_ret
 exact ⟨rfl, h2, dH hg1 hg2⟩
theorem Mh (l : List UInt8) : (Lib.trimLeftB l 0).isEmpty = l.all (· == 0) := by
 unfold Lib.trimLeftB
 induction l with
 | nil => rfl
 | cons x l ih =>
   rw [List.dropWhile_cons, List.all_cons]
   by_cases h : (x == 0) = true
   ·rw [if_pos h, ih, h, Bool.true_and]
   ·have h' : (x == 0) = false := by simpa using h
    rw [if_neg h, h', Bool.false_and]; rfl
theorem Lh (g : Nat) (s : Rd) (w : World) (h : bP w g s) :
  Calls Tryz.prog 169 #[.pointer (some ⟨g, 0, none⟩)] w fun e w' => e = .returned (.bool s.rest) /\ w = w' := by
 obtain ⟨b, e⟩ := s
 have c0 := aG.cell h 0
 have c1 := aG.cell h 1
 simp at c0 c1
 by_cases he : e = 0
 ·subst he
  have R : Rd.rest ⟨b, 0⟩ = b.data.toList.all (· == 0) := by simp [Rd.rest]
  rw [R]
  clear R
  go_enter Tryz.func169, Tryz.ntmps169
  go_wp2_with (go_at_call 190; refine (Mi b 0 (by decide) _).mono ?_; rintro e w1 ⟨rfl, rfl⟩)
  go_ret
  exact ⟨by rw [<- Mh]; rfl, rfl⟩
 ·have hc : (e == 0) = false := beq_eq_false_iff_ne.2 he
  have R : Rd.rest ⟨b, e⟩ = false := by simp [Rd.rest, he]
  rw [R]
  clear R
  go_enter Tryz.func169, Tryz.ntmps169
  go_wp2_with fail
  go_ret
  exact ⟨rfl, rfl⟩
theorem Yx (g : Nat) (s : Rd) (w : World) (h : bP w g s) :
  Calls Tryz.prog 118 #[.pointer (some ⟨g, 0, none⟩)] w fun e w' => e = .returned (.int .i64 s.fin.1) /\ bP w' g s.fin.2 /\ w.grownBy w' (some g) := by
 have c1 := aG.cell h 1
 simp at c1
 cases hr : s.rest with
 | true =>
   have R : s.fin = (s.e, s) := by unfold Rd.fin; rw [if_pos hr]
   rw [R]
   clear R
   go_enter Tryz.func118, Tryz.ntmps118
   go_wp2_with (go_at_call 169; refine (Lh g s _ h).mono ?_; rintro e w1 ⟨rfl, rfl⟩)
   go_ret
   exact ⟨rfl, h, aC _ _⟩
 | false =>
   have R : s.fin = ((s.fail 6).e, s.fail 6) := by unfold Rd.fin; rw [if_neg (by rw [hr]; simp)]
   rw [R]
   clear R
   have hf : Calls Tryz.prog 170 #[.pointer (some ⟨g, 0, none⟩), .int .i64 6] w fun e w' => e = .returned (.tuple #[]) /\ bP w' g (s.fail 6) /\ w.grownBy w' (some g) := by
    by_cases he : s.e = 0
    ·have R : s.fail 6 = ⟨.empty, 6⟩ := by unfold Rd.fail; rw [if_pos he]
     rw [R]
     exact lL g s 6 w h he
    ·have R : s.fail 6 = s := by unfold Rd.fail; rw [if_neg he]
     rw [R]
     have hc : (s.e == 0) = false := beq_eq_false_iff_ne.2 he
     clear R hr
     go_enter Tryz.func170, Tryz.ntmps170
     go_wp2
     go_end0
     exact ⟨rfl, h, aC _ _⟩
   have HF := Lib.hid hf
   clear hf
   go_enter Tryz.func118, Tryz.ntmps118
   go_wp2_with (first
    | (go_at_call 169; refine (Lh g s _ h).mono ?_; rintro e w1 ⟨rfl, rfl⟩)
    | (go_at_call 170; refine HF.out.mono ?_; rintro e w2 ⟨rfl, h2, hg2⟩; have c2 := aG.cell h2 1; simp at c2))
   go_ret
   exact ⟨rfl, h2, hg2⟩
theorem Ck (b : ByteArray) (w : World) (hb : b.size <= 140737488351232) :
  Calls Tryz.prog 114 #[.string b] w fun e w' => ∃ g, e = .returned (.pointer (some ⟨g, 0, none⟩)) /\ w.heap.size <= g /\ bP w' g ⟨b, 0⟩ /\ Below w.heap.size w w' := by
 go_enter Tryz.func114, Tryz.ntmps114
 go_wp2_with (go_at_call 97; refine (iK b _ (by omega)).mono ?_; rintro e w1 ⟨rfl, hb1⟩)
 go_ret
 exact ⟨_, rfl, hb1.size, aG.new _ _ _, hb1.alloc hb1.size _⟩
set_option maxHeartbeats 800000
theorem wO {B : Nat} {w w' : World} (h : Below B w w') : Below B w w'.drew := ⟨h.os, h.tape, h.output, h.size, h.block⟩
theorem Mg (k : Int) (w : World) :
  Calls Tryz.prog 154 #[.int .i64 k] w fun e w' => e = .returned (.int .i64 (iJ k)) /\ w = w' := by
 by_cases h1 : k = 1
 ·subst h1
  go_enter Tryz.func154, Tryz.ntmps154
  go_wp2
  go_ret
  exact ⟨rfl, rfl⟩
 ·by_cases h2 : k = 2
  ·subst h2
   go_enter Tryz.func154, Tryz.ntmps154
   go_wp2
   go_ret
   exact ⟨rfl, rfl⟩
  ·rw [lJ h1 h2]
   have e1 : (k == 1) = false := beq_eq_false_iff_ne.2 h1
   have e2 : (k == 2) = false := beq_eq_false_iff_ne.2 h2
   clear h1 h2
   go_enter Tryz.func154, Tryz.ntmps154
   go_wp2
   go_ret
   exact ⟨rfl, rfl⟩
theorem Ag (k : Int) (s : ByteArray) (w : World) :
  Calls Tryz.prog 103 #[.agg #[.int .i64 k, .string s]] w fun e w' => e = .returned (.bool (kG k s)) /\ Below w.heap.size w w' := by
 have HZ := Lib.hid (fun w => Mg k w)
 have hv : kG k s = (decide (0 < iJ k) && decide ((s.size : Int) = iJ k)) := rfl
 obtain ⟨r, hr⟩ : ∃ r, r = kG k s := ⟨_, rfl⟩
 rw [<- hr] at hv ⊢
 generalize iJ k = z at *
 by_cases h0 : 0 < z
 ·by_cases h1 : (s.size : Int) = z
  ·obtain rfl : r = true := by rw [hv]; simp [h0, h1]
   clear hr hv
   have e1 : ((s.size : Int) == z) = true := by simpa using h1
   clear h1
   go_enter Tryz.func103, Tryz.ntmps103
   go_wp2_with (go_at_call 154; refine (HZ.out _).mono ?_; rintro e w1 ⟨rfl, rfl⟩)
   go_ret
   exact ⟨rfl, (Below.refl _ _).alloc (Nat.le_refl _) _⟩
  ·obtain rfl : r = false := by rw [hv]; simp [h1]
   clear hr hv
   have e1 : ((s.size : Int) == z) = false := beq_eq_false_iff_ne.2 h1
   clear h1
   go_enter Tryz.func103, Tryz.ntmps103
   go_wp2_with (go_at_call 154; refine (HZ.out _).mono ?_; rintro e w1 ⟨rfl, rfl⟩)
   go_ret
   exact ⟨rfl, (Below.refl _ _).alloc (Nat.le_refl _) _⟩
 ·obtain rfl : r = false := by rw [hv]; simp [h0]
  clear hr hv
  go_enter Tryz.func103, Tryz.ntmps103
  go_wp2_with (go_at_call 154; refine (HZ.out _).mono ?_; rintro e w1 ⟨rfl, rfl⟩)
  go_ret
  exact ⟨rfl, (Below.refl _ _).alloc (Nat.le_refl _) _⟩
end Go.Proofs.YtingkbeifohihaaGreatDoor
