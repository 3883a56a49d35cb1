/-
  maps.DeleteFunc over the desk's map; useJust: a Room says what is in use. No statement is proved here.
-/
import Derived.Test.YtingkbeifohihaaGreatDoorDiskMade
import Derived.Test.YtingkbeifohihaaGreatDoorRoomSmall
import Derived.Test.YtingkbeifohihaaGreatDoorWalLeft
import Derived.Test.YtingkbeifohihaaGreatDoorOut
import Derived.Test.YtingkbeifohihaaGreatDoorRowMore
import Derived.Deep.CutRange
import Derived.Lib.SlMapFilter
import Derived.WalkKit
import Derived.Maps.Ext
import Derived.Maps.RangeWalk
import Derived.Laws.IdiomRangeMap
import Derived.Deep.LoopGhost
import Derived.Shelf.Abstract
namespace Go.Proofs.YtingkbeifohihaaGreatDoor
theorem pF (x : Int) : ∀ l : List Int, x ∉ l -> (mD x l).length = l.length + 1
 | [], _ => rfl
 | y :: r, h => by
   have h1 : x ≠ y := fun e => h (by simp [e])
   have h2 : x ∉ r := fun e => h (by simp [e])
   unfold mD
   split
   ·rw [List.length_cons, pF x r h2, List.length_cons]
   ·rw [if_neg (fun e => h1 e.symm)]
    simp
theorem Uv {n : Nat} {H : List Int} (ho : oZ n H) (hl : H.length = n) : ∀ t : Nat, t < n -> (t : Int) ∈ H := by
 have := congrArg List.length (sM ho)
 rw [List.length_map, hl] at this
 have h2 : ((List.range n).filter (jS H)).length = (List.range n).length := by rw [this, List.length_range]
 intro t ht
 have h3 := List.length_filter_eq_length_iff.1 h2 t (List.mem_range.2 ht)
 exact (lV _ _).1 h3
theorem Kk {n : Nat} {H : List Int} (ho : oZ n H) (hl : H.length = n) : gS H n :=
 ⟨Uv ho hl, fun hm => by have := ho.range _ hm; omega⟩
theorem Uw {n : Nat} {H : List Int} {k : Nat} (ho : oZ n H) (hk : gS H k) (hl : H.length < n) : k < n := by
 have h1 := hk.le ho
 rcases Nat.lt_or_ge k n with h | h
 ·exact h
 ·obtain rfl : k = n := by omega
  have e : (List.range k).filter (jS H) = List.range k := by
   rw [List.filter_eq_self]
   intro t ht
   exact (lV _ _).2 (hk.all t (List.mem_range.1 ht))
  have := congrArg List.length (sM ho)
  rw [List.length_map, e, List.length_range] at this
  omega
theorem sU {x : Int} : ∀ {H : List Int}, H.Pairwise (· < ·) -> x ∈ H -> (fW x H).length + 1 = H.length
 | [], _, hm => by cases hm
 | y :: r, h, hm => by
   rw [List.pairwise_cons] at h
   unfold fW
   rw [List.filter_cons]
   by_cases e : y = x
   ·subst e
    have hn : y ∉ r := fun hy => by have := h.1 y hy; omega
    have := Pf hn
    unfold fW at this
    rw [if_neg (by simp), this, List.length_cons]
   ·rw [if_pos (by simpa using e)]
    have hm' : x ∈ r := by
     rcases List.mem_cons.1 hm with h' | h'
     ·exact absurd h'.symm e
     ·exact h'
    have := sU h.2 hm'
    unfold fW at this
    rw [List.length_cons, List.length_cons]
    omega
open Go.RowKit
set_option maxRecDepth 100000
set_option maxHeartbeats 1000000
structure KD where
 S : DS
 seq : Int
 up : Bool
 k : Int
 F : Int -> ByteArray
 H : List Int
 kept : ByteArray
 syncs : Int
 bad : Int
def cU (gw gm gr : Nat) (kept : ByteArray) (syncs bad : Int) : Array Value := #[.pointer (some ⟨gw, 0, none⟩), .map (some gm), .pointer (some ⟨gr, 0, none⟩), .string kept, .int .i64 syncs, .int .i64 bad]
structure cM (w : World) (g gw gm gr gd m : Nat) (O : List Nat) (K : KD) : Prop where
 blk : aG w g 66 (cU gw gm gr K.kept K.syncs K.bad)
 wal : aG w gw 162 (eS gd K.seq K.up K.k)
 disk : bE w O gd K.S
 map : eX w gm m K.F
 room : aU w gr (K.S.now.length - 111) K.H
 apart : (g :: gw :: gm :: gr :: O).Nodup
def bL (w : World) (P : List Nat) (g gd m : Nat) (K : KD) : Prop := ∃ gw gm gr O, P = g :: gw :: gm :: gr :: O /\ cM w g gw gm gr gd m O K
def bC (P : List Nat) (g gd m : Nat) (K : KD) (w w' : World) : Prop := ∃ P', bL w' P' g gd m K /\ (∀ b ∈ P', b ∈ P \/ w.heap.size <= b) /\ aR P w w'
theorem eX.keep {w w' : World} {b m : Nat} {F : Int -> ByteArray} {O : List Nat} (h : eX w b m F) (hk : aR O w w') (hb : b ∉ O) : eX w' b m F := h.kept (hk.block b h.lt hb)
theorem aG.keep {w w' : World} {g : Nat} {t : TypeId} {cs : Array Value} {O : List Nat} (h : aG w g t cs) (hk : aR O w w') (hb : g ∉ O) : aG w' g t cs := (hk.block g h.lt hb).trans h
theorem aU.keep {w w' : World} {g n : Nat} {H : List Int} {O : List Nat} (h : aU w g n H) (hk : aR O w w') (hb : g ∉ O) : aU w' g n H := ⟨h.blk.keep hk hb, h.ok, h.size⟩
section
variable {w w' : World} {P : List Nat} {g gw gm gr gd m : Nat} {O : List Nat} {K : KD}
theorem cM.lt (h : cM w g gw gm gr gd m O K) {b : Nat} (hb : b ∈ g :: gw :: gm :: gr :: O) : b < w.heap.size := by
 simp only [List.mem_cons] at hb
 rcases hb with rfl | rfl | rfl | rfl | hb
 ·exact h.blk.lt
 ·exact h.wal.lt
 ·exact h.map.lt
 ·exact h.room.lt
 ·exact h.disk.lt hb
theorem bL.lt (h : bL w P g gd m K) {b : Nat} (hb : b ∈ P) : b < w.heap.size := by
 obtain ⟨gw, gm, gr, O, rfl, h⟩ := h
 exact h.lt hb
theorem cM.kept (h : cM w g gw gm gr gd m O K) (hk : ∀ b ∈ g :: gw :: gm :: gr :: O, w'.heap[b]? = w.heap[b]?) : cM w' g gw gm gr gd m O K where
 blk := (hk g (by simp)).trans h.blk
 wal := (hk gw (by simp)).trans h.wal
 disk := h.disk.kept fun b hb => hk b (by simp [hb])
 map := h.map.kept (hk gm (by simp))
 room := ⟨(hk gr (by simp)).trans h.room.blk, h.room.ok, h.room.size⟩
 apart := h.apart
theorem bL.kept (h : bL w P g gd m K) (hk : ∀ b ∈ P, w'.heap[b]? = w.heap[b]?) : bL w' P g gd m K := by
 obtain ⟨gw, gm, gr, O, rfl, h⟩ := h
 exact ⟨gw, gm, gr, O, rfl, h.kept hk⟩
theorem bL.below (h : bL w P g gd m K) (hb : Below w.heap.size w w') : bL w' P g gd m K := h.kept fun b hb' => hb.block b (h.lt hb')
theorem bC.refl (h : bL w P g gd m K) : bC P g gd m K w w := ⟨P, h, fun _ hb => .inl hb, aR.refl _ _⟩
theorem bC.of_below (h : bL w P g gd m K) (hb : Below w.heap.size w w') : bC P g gd m K w w' := ⟨P, h.below hb, fun _ hb => .inl hb, aR.of_below hb⟩
theorem bC.after {w0 : World} (hb : Below w0.heap.size w0 w) (h : bC P g gd m K w w') : bC P g gd m K w0 w' := by
 obtain ⟨P1, h1, h2, h3⟩ := h
 refine ⟨P1, h1, fun b hb' => ?_, (aR.of_below hb).trans' h3⟩
 rcases h2 b hb' with h | h
 ·exact .inl h
 ·exact .inr (Nat.le_trans hb.size h)
theorem cM.nodup (h : cM w g gw gm gr gd m O K) : g ≠ gw /\ g ≠ gm /\ g ≠ gr /\ gw ≠ gm /\ gw ≠ gr /\ gm ≠ gr /\ g ∉ O /\ gw ∉ O /\ gm ∉ O /\ gr ∉ O := by
 have := h.apart
 simp only [List.nodup_cons, List.mem_cons, not_or] at this
 obtain ⟨⟨a1, a2, a3, a4⟩, ⟨b1, b2, b3⟩, ⟨c1, c2⟩, d1, _⟩ := this
 exact ⟨a1, a2, a3, b1, b2, c1, a4, b3, c2, d1⟩
theorem cM.at (h : cM w g gw gm gr gd m O K) : bL w (g :: gw :: gm :: gr :: O) g gd m K := ⟨gw, gm, gr, O, rfl, h⟩
theorem oO (h : bL w P g gd m K) : Calls Tryz.prog 80 #[.pointer (some ⟨g, 0, none⟩)] w fun e w' => e = .returned (.int .i64 K.bad) /\ w' = w := by
 obtain ⟨gw, gm, gr, O, rfl, h⟩ := h
 have c2 := h.blk.cell 2
 have c5 := h.blk.cell 5
 simp [cU] at c2 c5
 clear h
 go_enter Tryz.func80, Tryz.ntmps80
 go_wp2_with fail
 go_ret
 exact ⟨rfl, rfl⟩
theorem Nu (h : bL w P g gd m K) : Calls Tryz.prog 21 #[.pointer (some ⟨g, 0, none⟩)] w fun e w' => e = .returned (.pointer (some ⟨w.heap.size, 0, none⟩)) /\ aU w' w.heap.size (K.S.now.length - 111) K.H /\ Below w.heap.size w w' := by
 obtain ⟨gw, gm, gr, O, rfl, h⟩ := h
 have c2 := h.blk.cell 2
 simp [cU] at c2
 have HC := Lib.hid (pT h.room)
 clear h
 go_enter Tryz.func21, Tryz.ntmps21
 go_wp2_with (go_at_call 42; refine HC.out.mono ?_; rintro e w1 ⟨rfl, hr, hb⟩)
 go_ret
 exact ⟨rfl, hr, hb⟩
theorem AJ (a : Array Value) (h : a.size = 15) : ∃ y0 y1 y2 y3 y4 y5 y6 y7 y8 y9 y10 y11 y12 y13 y14 : Value, a = #[y0, y1, y2, y3, y4, y5, y6, y7, y8, y9, y10, y11, y12, y13, y14] := by
 obtain ⟨l⟩ := a
 have h : l.length = 15 := h
 obtain ⟨y0, t1, e1, h1⟩ := aB h
 obtain ⟨y1, t2, e2, h2⟩ := aB h1
 obtain ⟨y2, t3, e3, h3⟩ := aB h2
 obtain ⟨y3, t4, e4, h4⟩ := aB h3
 obtain ⟨y4, t5, e5, h5⟩ := aB h4
 obtain ⟨y5, t6, e6, h6⟩ := aB h5
 obtain ⟨y6, t7, e7, h7⟩ := aB h6
 obtain ⟨y7, t8, e8, h8⟩ := aB h7
 obtain ⟨y8, t9, e9, h9⟩ := aB h8
 obtain ⟨y9, t10, e10, h10⟩ := aB h9
 obtain ⟨y10, t11, e11, h11⟩ := aB h10
 obtain ⟨y11, t12, e12, h12⟩ := aB h11
 obtain ⟨y12, t13, e13, h13⟩ := aB h12
 obtain ⟨y13, t14, e14, h14⟩ := aB h13
 obtain ⟨y14, t15, e15, h15⟩ := aB h14
 have e16 := List.eq_nil_of_length_eq_zero h15
 exact ⟨y0, y1, y2, y3, y4, y5, y6, y7, y8, y9, y10, y11, y12, y13, y14, by rw [e1, e2, e3, e4, e5, e6, e7, e8, e9, e10, e11, e12, e13, e14, e15, e16]⟩
end
set_option maxRecDepth 100000
set_option maxHeartbeats 1000000
theorem xV {P : Program} {a : Act} {o : Oper} {ty : TypeId} {x y z : Operand} {p q v : Value} {w w' : World} (ho : o.op = .mapUpdate ty x y z) (hx : a.eval x = p) (hy : a.eval y = q) (hz : a.eval z = v) (hr : (Instr.mapUpdate ty p q v).run P w = .ok () w') : (execOp a.eval o).run P w = .ok .skip w' := by
 unfold execOp
 rw [ho]
 simp [hx, hy, hz, hr, Result.andThen]
section
variable {w w' : World} {P : List Nat} {g gw gm gr gd m : Nat} {O : List Nat} {K : KD}
theorem cM.lay (h : cM w g gw gm gr gd m O K) {F' : Int -> ByteArray} {m' : Nat} (hm : eX w' gm m' F') (hg : w.grownBy w' (some gm)) : cM w' g gw gm gr gd m' O { K with F := F' } := by
 obtain ⟨a1, a2, a3, a4, a5, a6, a7, a8, a9, a10⟩ := h.nodup
 exact ⟨h.blk.grown hg (by simp; exact a2), h.wal.grown hg (by simp; exact a4), h.disk.kept (fun b hb => hg.block b (h.disk.lt hb) (fun e => a9 (by injection e with e; rw [<- e]; exact hb))), hm, ⟨h.room.blk.grown hg (by simp; exact fun e => a6 e.symm), h.room.ok, h.room.size⟩, h.apart⟩
def Da (K : KD) (t : Int) (x : ByteArray) : KD := { K with F := vQ K.F t x }
theorem xW (t : Int) (x : ByteArray) (h : bL w P g gd m K) (hm : m < 1000000) (ht : nK t) (hx : x ≠ .empty) (hs : x.size <= 100000) :
  Calls Tryz.prog 56 #[.pointer (some ⟨g, 0, none⟩), .int .i64 t, .string x] w fun e w' => e = .returned (.tuple #[]) /\ bC P g gd (m + 1) (Da K t x) w w' := by
 obtain ⟨gw, gm, gr, O, rfl, h⟩ := h
 have HD := Lib.hid h
 have c1 := h.blk.cell 1
 simp [cU] at c1
 have hglt := h.blk.lt
 have HT := Lib.hid ht
 have HX := Lib.hid hx
 have HS := Lib.hid hs
 have HM := Lib.hid hm
 clear h ht hx hs hm
 go_enter Tryz.func56, Tryz.ntmps56
 go_upto_region 0 with fail
 refine jM 6 9 14 (fun i => match i with | 0 => .pointer (some ⟨g, 0, none⟩) | 1 => .pointer (some ⟨g, 0, none⟩) | 2 => .pointer (some ⟨g, 1, none⟩) | 3 => .map (some gm) | 4 => .int .i64 t | 5 => .int .i64 t | 6 => .string x | 7 => .string x | _ => .agg #[.int .i64 t, .string x]) (fun w3 => Below w.heap.size w w3) (fun w3 => bC (g :: gw :: gm :: gr :: O) g gd (m + 1) (Da K t x) w w3) (by kernel_rfl) (by kernel_rfl) rfl (by kernel_rfl) rfl (by simp) (fun w3 w4 h1 hg => h1.trans ((fH hg).mono h1.size)) (Below.refl _ _) ?hops ?hlast ?hK
 case hops =>
  intro i hi y w' hF hJw hw
  rcases (show i = 0 \/ i = 1 \/ i = 2 \/ i = 3 \/ i = 4 \/ i = 5 \/ i = 6 \/ i = 7 \/ i = 8 by omega) with rfl | rfl | rfl | rfl | rfl | rfl | rfl | rfl | rfl
  ·have e3 : y.tmps[0]?.getD undef = .pointer (some ⟨g, 0, none⟩) := hF.get 0 (by omega)
   clear hF hJw hw
   refine aA (v := .pointer (some ⟨g, 0, none⟩)) (w' := w') rfl rfl ?_ ⟨rfl, aC _ _⟩
   go_simp
  ·have e1 : y.tmps[6]?.getD undef = .pointer (some ⟨g, 0, none⟩) := hw 0 (of_decide_eq_true (by kernel_rfl)) (by omega)
   clear hF hJw hw
   refine aA (v := .pointer (some ⟨g, 0, none⟩)) (w' := w') rfl rfl ?_ ⟨rfl, aC _ _⟩
   go_simp
  ·have e1 : y.tmps[7]?.getD undef = .pointer (some ⟨g, 0, none⟩) := hw 1 (of_decide_eq_true (by kernel_rfl)) (by omega)
   clear hF hJw hw
   refine aA (v := .pointer (some ⟨g, 1, none⟩)) (w' := w') rfl rfl ?_ ⟨rfl, aC _ _⟩
   go_simp
  ·have e1 : y.tmps[8]?.getD undef = .pointer (some ⟨g, 1, none⟩) := hw 2 (of_decide_eq_true (by kernel_rfl)) (by omega)
   have c1' : w'.cell? ⟨g, 1, none⟩ = some (.map (some gm)) := (hJw.cell (p := ⟨g, 1, none⟩) hglt).trans c1
   clear hF hJw hw
   refine aA (v := .map (some gm)) (w' := w') rfl rfl ?_ ⟨rfl, aC _ _⟩
   go_simp
  ·have e3 : y.tmps[1]?.getD undef = .int .i64 t := hF.get 1 (by omega)
   clear hF hJw hw
   refine aA (v := .int .i64 t) (w' := w') rfl rfl ?_ ⟨rfl, aC _ _⟩
   go_simp
  ·have e3 : y.tmps[1]?.getD undef = .int .i64 t := hF.get 1 (by omega)
   clear hF hJw hw
   refine aA (v := .int .i64 t) (w' := w') rfl rfl ?_ ⟨rfl, aC _ _⟩
   go_simp
  ·have e3 : y.tmps[2]?.getD undef = .string x := hF.get 2 (by omega)
   clear hF hJw hw
   refine aA (v := .string x) (w' := w') rfl rfl ?_ ⟨rfl, aC _ _⟩
   go_simp
  ·have e3 : y.tmps[12]?.getD undef = .string x := hw 6 (of_decide_eq_true (by kernel_rfl)) (by omega)
   clear hF hJw hw
   exact aP (f := 97) (args := #[.string x]) rfl rfl (by go_simp) ((iK x _ (by have := HS.out; omega)).mono fun e w'' ⟨he, hb⟩ => ⟨_, he, rfl, cT hb (Nat.le_refl _)⟩)
  ·have e1 : y.tmps[11]?.getD undef = .int .i64 t := hw 5 (of_decide_eq_true (by kernel_rfl)) (by omega)
   have e2 : y.tmps[13]?.getD undef = .string x := hw 7 (of_decide_eq_true (by kernel_rfl)) (by omega)
   clear hF hJw hw
   refine aA (v := .agg #[.int .i64 t, .string x]) (w' := w') rfl rfl ?_ ⟨rfl, aC _ _⟩
   go_simp
 case hlast =>
  intro y w3 hF hJw hall
  have e1 : y.tmps[9]?.getD undef = .map (some gm) := hall 3 (by omega)
  have e2 : y.tmps[10]?.getD undef = .int .i64 t := hall 4 (by omega)
  have e3 : y.tmps[14]?.getD undef = .agg #[.int .i64 t, .string x] := hall 8 (by omega)
  have HD3 := Lib.hid (HD.out.kept fun b hb => hJw.block b (HD.out.lt hb))
  obtain ⟨w4, hr, hm4, hg4⟩ := HD3.out.map.update HM.out HT.out HX.out
  exact eC rfl rfl (xV rfl (by simp [Act.eval, e1]) (by simp [Act.eval, e2]) (by simp [Act.eval, e3]) hr) ⟨rfl, bC.after hJw ⟨_, (HD3.out.lay hm4 hg4).at, fun _ hb => .inl hb, (aR.refl _ _).by_in hg4 (fun b e => by cases e; simp)⟩⟩
 case hK =>
  intro y w2 hF _ hJ2
  have HJ2 := Lib.hid hJ2
  clear hJ2
  obtain ⟨tt, d⟩ := y
  obtain ⟨x0, x1, x2, x3, x4, x5, x6, x7, x8, x9, x10, x11, x12, x13, x14, rfl⟩ := AJ tt hF.2.1
  obtain rfl : d = [] := hF.1
  clear hF
  go_wp2_with fail
  go_end0
  exact ⟨rfl, HJ2.out⟩
theorem bL.mono {m' : Nat} (h : bL w P g gd m K) (hm : m <= m') : bL w P g gd m' K := by
 obtain ⟨gw, gm, gr, O, rfl, h⟩ := h
 exact ⟨gw, gm, gr, O, rfl, h.blk, h.wal, h.disk, h.map.mono hm, h.room, h.apart⟩
theorem bC.mono {m' : Nat} (h : bC P g gd m K w w') (hm : m <= m') : bC P g gd m' K w w' := by
 obtain ⟨P1, h1, h2, h3⟩ := h
 exact ⟨P1, h1.mono hm, h2, h3⟩
theorem bL.drewN (h : bL w P g gd m K) (d : Nat) : bL (w.drewN d) P g gd m K := h.kept fun _ _ => rfl
theorem bC.drew {d : Nat} (h : bL w P g gd m K) : bC P g gd m K w (w.drewN d) := ⟨P, h.drewN d, fun _ hb => .inl hb, (aR.refl _ _).drewN d⟩
theorem bC.afterD {d : Nat} (h : bC P g gd m K (w.drewN d) w') : bC P g gd m K w w' := by
 obtain ⟨P1, h1, h2, h3⟩ := h
 exact ⟨P1, h1, h2, ((aR.refl P w).drewN d).trans' h3⟩
def oN (K : KD) (t : Int) (x : ByteArray) : Int := if t = 1 \/ t ∉ K.H then 15 else if x.size = 256 then 0 else 1
def nZ (K : KD) (t : Int) (x : ByteArray) : KD := if t = 1 \/ t ∉ K.H then K else if x.size = 256 then Da K t x else K
theorem Fm {w : World} {g n : Nat} {H : List Int} (h : aU w g n H) {t : Int} (ht : t ∈ H) : nK t /\ 0 <= t /\ t < (n : Int) := by
 have h1 := h.ok.range t ht
 have h2 := h.size
 unfold nK
 omega
theorem xX {x : ByteArray} (h : x.size = 256) : x ≠ .empty := fun e => by rw [e] at h; exact absurd h (by decide)
theorem Tc (t : Int) (x : ByteArray) (h : bL w P g gd m K) (hb0 : K.bad = 0) (hm : m < 1000000) (hs : x.size <= 100000) :
  Calls Tryz.prog 76 #[.pointer (some ⟨g, 0, none⟩), .int .i64 t, .string x] w fun e w' => e = .returned (.int .i64 (oN K t x)) /\ bC P g gd (m + 1) (nZ K t x) w w' := by
 have HK := Lib.hid h
 have HB := Lib.hid (oO h)
 rw [hb0] at HB
 have HLY := Lib.hid (fun (w1 : World) (h1 : bL w1 P g gd m K) (ht : nK t) (hx : x ≠ .empty) => xW (w := w1) t x h1 hm ht hx hs)
 have HS := Lib.hid hs
 obtain ⟨gw, gm, gr, O, rfl, h⟩ := h
 have c2 := h.blk.cell 2
 simp [cU] at c2
 have HU := Lib.hid (tP t h.room)
 have HI := Lib.hid (fun ht => Fm (t := t) h.room ht)
 have hsI : (x.size : Int) <= 100000 := by omega
 clear h
 by_cases h1 : t = 1
 ·have hE : oN K t x = 15 := by unfold oN; rw [if_pos (.inl h1)]
  have hK : nZ K t x = K := by unfold nZ; rw [if_pos (.inl h1)]
  rw [hE, hK]
  clear hE hK
  subst h1
  go_enter Tryz.func76, Tryz.ntmps76
  go_wp2_with (go_at_call 80; refine HB.out.mono ?_; rintro e w1 ⟨rfl, rfl⟩)
  go_ret
  exact ⟨rfl, (bC.refl HK.out).mono (by omega)⟩
 ·have h1' : (t == 1) = false := by simpa using h1
  by_cases h2 : t ∈ K.H
  ·rw [show decide (t ∈ K.H) = true from decide_eq_true h2] at HU
   have HI2 := Lib.hid (HI.out h2)
   by_cases h3 : x.size = 256
   ·have hE : oN K t x = 0 := by unfold oN; rw [if_neg (by simp [h1, h2]), if_pos h3]
    have hK : nZ K t x = Da K t x := by unfold nZ; rw [if_neg (by simp [h1, h2]), if_pos h3]
    rw [hE, hK]
    have h3I : (x.size : Int) = 256 := by omega
    have HXE := Lib.hid (xX h3)
    clear hE hK h3 h2
    go_enter Tryz.func76, Tryz.ntmps76
    go_wp2_with (first
     | (go_at_call 80; refine HB.out.mono ?_; rintro e w1 ⟨rfl, rfl⟩)
     | (go_at_call 120; refine HU.out.mono ?_; rintro e w1 ⟨rfl, d, rfl⟩)
     | (go_at_call 56; refine (HLY.out _ (HK.out.drewN _) HI2.out.1 HXE.out).mono ?_; rintro e w2 ⟨rfl, hT⟩))
    go_ret
    exact ⟨rfl, hT.afterD⟩
   ·have hE : oN K t x = 1 := by unfold oN; rw [if_neg (by simp [h1, h2]), if_neg h3]
    have hK : nZ K t x = K := by unfold nZ; rw [if_neg (by simp [h1, h2]), if_neg h3]
    rw [hE, hK]
    have h3I : ¬ (x.size : Int) = 256 := by omega
    clear hE hK h3 h2
    go_enter Tryz.func76, Tryz.ntmps76
    go_wp2_with (first
     | (go_at_call 80; refine HB.out.mono ?_; rintro e w1 ⟨rfl, rfl⟩)
     | (go_at_call 120; refine HU.out.mono ?_; rintro e w1 ⟨rfl, d, rfl⟩))
    go_ret
    exact ⟨rfl, (bC.drew HK.out).mono (by omega)⟩
  ·rw [show decide (t ∈ K.H) = false from decide_eq_false h2] at HU
   have hE : oN K t x = 15 := by unfold oN; rw [if_pos (.inr h2)]
   have hK : nZ K t x = K := by unfold nZ; rw [if_pos (.inr h2)]
   rw [hE, hK]
   clear hE hK h2
   go_enter Tryz.func76, Tryz.ntmps76
   go_wp2_with (first
    | (go_at_call 80; refine HB.out.mono ?_; rintro e w1 ⟨rfl, rfl⟩)
    | (go_at_call 120; refine HU.out.mono ?_; rintro e w1 ⟨rfl, d, rfl⟩))
   go_ret
   exact ⟨rfl, (bC.drew HK.out).mono (by omega)⟩
theorem bA.keep {w w' : World} {g n : Nat} {H : List Int} (h : bA w w' g n H) : aR [g] w w' := (aR.refl _ _).by_in h.by_ (fun b e => by cases e; simp)
def nJ (K : KD) (k : Nat) (x : ByteArray) : KD := { K with H := mD (k : Int) K.H, F := vQ K.F k x }
theorem Td (x : ByteArray) {k : Nat} (h : bL w P g gd m K) (hb0 : K.bad = 0) (hm : m < 1000000) (hs : x.size <= 100000) (hk : gS K.H k) :
  Calls Tryz.prog 47 #[.pointer (some ⟨g, 0, none⟩), .string x] w fun e w' =>
   (x.size ≠ 256 /\ e = .returned (.tuple #[.int .i64 0, .int .i64 1]) /\ bC P g gd (m + 1) K w w') \/
   (x.size = 256 /\ k = K.S.now.length - 111 /\ e = .returned (.tuple #[.int .i64 0, .int .i64 20]) /\ bC P g gd (m + 1) K w w') \/
   (x.size = 256 /\ k < K.S.now.length - 111 /\ e = .returned (.tuple #[.int .i64 (k : Int), .int .i64 0]) /\ bC P g gd (m + 1) (nJ K k x) w w') := by
 have HK := Lib.hid h
 have HB := Lib.hid (oO h)
 rw [hb0] at HB
 have HLY := Lib.hid (fun (w1 : World) (K1 : KD) (P1 : List Nat) (h1 : bL w1 P1 g gd m K1) (ht : nK (k : Int)) (hx : x ≠ .empty) => xW (w := w1) (k : Int) x h1 hm ht hx hs)
 have hsI : (x.size : Int) <= 100000 := by omega
 by_cases h3 : x.size = 256
 ·have h3I : (x.size : Int) = 256 := by omega
  have HXE := Lib.hid (xX h3)
  have H3 := Lib.hid h3
  clear h3 hs
  obtain ⟨gw, gm, gr, O, rfl, h⟩ := h
  have HD := Lib.hid h
  have c2 := h.blk.cell 2
  simp [cU] at c2
  have HT := Lib.hid (Ox h.room hk)
  have HRS := Lib.hid h.room.size
  clear h
  go_enter Tryz.func47, Tryz.ntmps47
  go_wp2_with (go_at_call 80; refine HB.out.mono ?_; rintro e w1 ⟨rfl, rfl⟩)
  refine HT.out.mono ?_
  rintro e w2 (⟨hlt, rfl, hT2⟩ | ⟨hlt, rfl, rfl⟩)
  ·have HT2 := Lib.hid hT2
   have HLT := Lib.hid hlt
   clear hT2 hlt
   have HK2 : Hid (bC (g :: gw :: gm :: gr :: O) g gd m { K with H := mD (k : Int) K.H } w1 w2) := Lib.hid (by
    obtain ⟨a1, a2, a3, a4, a5, a6, a7, a8, a9, a10⟩ := HD.out.nodup
    have hk2 := HT2.out.keep
    have hD := HD.out
    refine ⟨_, cM.at (gw := gw) (gm := gm) (gr := gr) (O := O) ⟨hD.blk.keep hk2 (by simpa using a3), hD.wal.keep hk2 (by simpa using a5), hD.disk.far hk2 (fun b hb => by simp; rintro rfl; exact a10 hb), hD.map.keep hk2 (by simpa using a6), HT2.out.room, hD.apart⟩, fun _ hb => .inl hb, hk2.mono (fun b hb => .inl (by simp at hb; subst hb; simp))⟩)
   have HKI : Hid (nK (k : Int)) := Lib.hid (by have h1 := HLT.out; have h2 := HRS.out; unfold nK; omega)
   have HK3 : Hid (Calls Tryz.prog 56 #[.pointer (some ⟨g, 0, none⟩), .int .i64 (k : Int), .string x] w2 fun e w' => e = .returned (.tuple #[]) /\ bC (g :: gw :: gm :: gr :: O) g gd (m + 1) (nJ K k x) w1 w') := Lib.hid (by
    obtain ⟨P2, hK2, hP2, hk2⟩ := HK2.out
    refine (HLY.out w2 _ P2 hK2 HKI.out HXE.out).mono ?_
    rintro e w3 ⟨rfl, P3, hK3, hP3, hk3⟩
    refine ⟨rfl, P3, hK3, fun b hb => ?_, hk2.trans hk3 hP2⟩
    rcases hP3 b hb with h | h
    ·exact hP2 b h
    ·exact .inr (Nat.le_trans hk2.size h))
   clear HK2
   go_wp2_with (go_at_call 56; refine HK3.out.mono ?_; rintro e w3 ⟨rfl, hT⟩)
   go_ret2
   exact .inr (.inr ⟨H3.out, HLT.out, rfl, hT⟩)
  ·have HLT := Lib.hid hlt
   clear hlt
   go_wp2_with fail
   go_ret2
   exact .inr (.inl ⟨H3.out, HLT.out, rfl, (bC.refl HK.out).mono (by omega)⟩)
 ·have h3I : ¬ (x.size : Int) = 256 := by omega
  have H3 := Lib.hid h3
  clear h3
  go_enter Tryz.func47, Tryz.ntmps47
  go_wp2_with (go_at_call 80; refine HB.out.mono ?_; rintro e w1 ⟨rfl, rfl⟩)
  go_ret2
  exact .inl ⟨H3.out, rfl, (bC.refl HK.out).mono (by omega)⟩
def gI (K : KD) (t : Int) : ByteArray × Int := if K.F t ≠ .empty then (K.F t, 0) else if 0 <= t /\ t < (K.S.now.length : Int) - 111 then (K.S.read (111 + t), K.S.errR (111 + t)) else (.empty, 15)
theorem Te (t : Int) (h : bL w P g gd m K) (hb0 : K.bad = 0) (hup : K.up = true) (h1 : 111 <= K.S.now.length) (h2 : K.S.now.length <= 2000) (hz : ∀ x ∈ K.S.now, x.size <= 100000) (hF : (K.F t).size <= 100000) (ht : nK t) :
  Calls Tryz.prog 67 #[.pointer (some ⟨g, 0, none⟩), .int .i64 t] w fun e w' => e = .returned (.tuple #[.string (gI K t).1, .int .i64 (gI K t).2]) /\ Below w.heap.size w w' := by
 have HB := Lib.hid (oO h)
 rw [hb0] at HB
 obtain ⟨gw, gm, gr, O, rfl, h⟩ := h
 have c0 := h.blk.cell 0
 have c1 := h.blk.cell 1
 simp [cU] at c0 c1
 have HL := h.map.look ht
 have hglt := h.blk.lt
 have HF := Lib.hid hF
 have HW : Hid (∀ w', Below w.heap.size w w' -> Calls Tryz.prog 112 #[.pointer (some ⟨gw, 0, none⟩), .int .i64 t] w' fun e w'' => e = .returned (if 0 <= t /\ t < (K.S.now.length : Int) - 111 then .tuple #[.string (K.S.read (111 + t)), .int .i64 (K.S.errR (111 + t))] else .tuple #[.string ⟨#[]⟩, .int .i64 15]) /\ Below w'.heap.size w' w'') :=
  Lib.hid (fun w' hb => Ny t (by have := h.wal.below hb h.wal.lt; rw [hup] at this; exact this) (h.disk.below hb) rfl h1 h2 hz)
 have HCL : Hid (∀ w', Calls Tryz.prog 97 #[.string (K.F t)] w' fun e w'' => e = .returned (.string (K.F t)) /\ Below w'.heap.size w' w'') := Lib.hid (fun w' => iK (K.F t) w' (by have := HF.out; omega))
 clear h hz h1 h2 hF ht
 by_cases hE : K.F t = .empty
 ·have hR : gI K t = if 0 <= t /\ t < (K.S.now.length : Int) - 111 then (K.S.read (111 + t), K.S.errR (111 + t)) else (.empty, 15) := by unfold gI; rw [if_neg (by simp [hE])]
  have hz0 : xY K.F t = sC := by unfold xY; rw [if_pos hE]
  have hd0 : decide (K.F t ≠ ByteArray.empty) = false := by simp [hE]
  rw [hz0, hd0] at HL
  unfold sC at HL
  obtain ⟨r1, hr1⟩ : ∃ r, r = (gI K t).1 := ⟨_, rfl⟩
  obtain ⟨r2, hr2⟩ : ∃ r, r = (gI K t).2 := ⟨_, rfl⟩
  have HW2 : Hid (∀ w', Below w.heap.size w w' -> Calls Tryz.prog 112 #[.pointer (some ⟨gw, 0, none⟩), .int .i64 t] w' fun e w'' => e = .returned (.tuple #[.string r1, .int .i64 r2]) /\ Below w'.heap.size w' w'') := Lib.hid (fun w' hb => (HW.out w' hb).mono (fun e w'' ⟨he, hb'⟩ => ⟨by
   rw [he, hr1, hr2, hR]
   split <;> rfl, hb'⟩))
  rw [<- hr1, <- hr2]
  clear HW hR hr1 hr2 hz0 hd0 HCL HF hE
  go_enter Tryz.func67, Tryz.ntmps67
  go_wp2_with (go_at_call 80; refine HB.out.mono ?_; rintro e w1 ⟨rfl, rfl⟩)
  refine (HW2.out _ ((Below.refl _ _).alloc (Nat.le_refl _) _)).mono ?_
  rintro e w2 ⟨rfl, hb2⟩
  go_wp2_with fail
  go_ret2
  exact ⟨rfl, ((Below.refl _ _).alloc (Nat.le_refl _) _).trans (hb2.mono (by simp))⟩
 ·have hR : gI K t = (K.F t, 0) := by unfold gI; rw [if_pos hE]
  have hz0 : xY K.F t = dJ t (K.F t) := by unfold xY; rw [if_neg hE]
  have hd0 : decide (K.F t ≠ ByteArray.empty) = true := by simp [hE]
  rw [hz0, hd0] at HL
  unfold dJ at HL
  rw [hR]
  obtain ⟨x, hx⟩ : ∃ x, x = K.F t := ⟨_, rfl⟩
  rw [<- hx] at HL HCL ⊢
  clear HW hR hz0 hd0 HF hE hx
  go_enter Tryz.func67, Tryz.ntmps67
  go_wp2_with (first
   | (go_at_call 80; refine HB.out.mono ?_; rintro e w1 ⟨rfl, rfl⟩)
   | (go_at_call 97; refine (HCL.out _).mono ?_; rintro e w2 ⟨rfl, hb2⟩))
  go_ret2
  exact ⟨rfl, ((Below.refl _ _).alloc (Nat.le_refl _) _).trans (hb2.mono (by simp))⟩
end
open Go.RowKit Go.Maps
set_option maxRecDepth 100000
set_option maxHeartbeats 4000000
def jE (H : List Int) (kl : Lit) (_ : DataW Value) : Bool := match kl with
 | .int _ t => !decide (t ∈ H)
 | _ => false
def uR (H : List Int) (F : Int -> ByteArray) (t : Int) : ByteArray := if t ∈ H then F t else .empty
theorem Nt {es : List (Lit × DataW Value)} {H : List Int} {t : Int} : (t ∉ H -> Maps.has (Lib.deleteFuncD (jE H) (.map es)) (.int .i64 t) = false) /\
  (t ∈ H -> Maps.has (Lib.deleteFuncD (jE H) (.map es)) (.int .i64 t) = Maps.has (.map es) (.int .i64 t) /\ ∀ zd, (Lib.deleteFuncD (jE H) (.map es)).atKey (.int .i64 t) zd = (DataW.map es).atKey (.int .i64 t) zd) := by
 have hk : ∀ p : Lit × DataW Value, p.1.sameKey (.int .i64 t) = true -> p.1 = .int .i64 t := fun p hp => WideAt.sameKey_eq hp
 constructor
 ·intro ht
  show (es.filter (fun p => !jE H p.1 p.2)).any (fun p => p.1.sameKey (.int .i64 t)) = false
  rw [List.any_eq_false]
  intro p hp hs
  have h1 := (List.mem_filter.1 hp).2
  rw [hk p hs] at h1
  simp [jE, ht] at h1
 ·intro ht
  constructor
  ·show (es.filter (fun p => !jE H p.1 p.2)).any (fun p => p.1.sameKey (.int .i64 t)) = es.any (fun p => p.1.sameKey (.int .i64 t))
   rw [List.any_filter]
   congr 1
   funext p
   cases hs : p.1.sameKey (.int .i64 t)
   ·simp
   ·rw [hk p hs]
    simp [jE, ht]
  ·intro zd
   have e : (es.filter (fun p => !jE H p.1 p.2)).find? (fun p => p.1.sameKey (.int .i64 t)) = es.find? (fun p => p.1.sameKey (.int .i64 t)) := by
    rw [List.find?_filter]
    congr 1
    funext p
    cases hs : p.1.sameKey (.int .i64 t)
    ·simp
    ·rw [hk p hs]
     simp [jE, ht]
   unfold Lib.deleteFuncD DataW.atKey
   simp only [e]
section
variable {w w' : World} {P : List Nat} {g gw gm gr gd m : Nat} {O : List Nat} {K : KD}
theorem Ta {n gr gx : Nat} {H : List Int} (t u : Int) (x : ByteArray) (hx : w.cell? ⟨gx, 0, none⟩ = some (.pointer (some ⟨gr, 0, none⟩))) (hlt : gx < w.heap.size) (hr : aU w gr n H) :
  Calls Tryz.prog 172 #[.int .i64 t, .agg #[.int .i64 u, .string x], .pointer (some ⟨gx, 0, none⟩)] w fun e w' => e = .returned (.bool (!decide (t ∈ H))) /\ w.grownBy w' none := by
 have HU : Hid (∀ w1, Below w.heap.size w w1 -> Calls Tryz.prog 120 #[.pointer (some ⟨gr, 0, none⟩), .int .i64 t] w1 fun e w' => e = .returned (.bool (decide (t ∈ H))) /\ ∃ d, w' = w1.drewN d) := Lib.hid (fun w1 hb => tP t (hr.below hb))
 have hx2 := (((Below.refl w.heap.size w).alloc (Nat.le_refl _) (.cells #[.int .i64 u, .string x] 74)).cell (p := ⟨gx, 0, none⟩) hlt).trans hx
 clear hr
 obtain ⟨r, hr⟩ : ∃ r, r = decide (t ∈ H) := ⟨_, rfl⟩
 rw [<- hr] at HU ⊢
 clear hr hlt hx
 have hb0 : Below w.heap.size w (w.alloc (.cells #[.int .i64 u, .string x] 74)) := (Below.refl _ _).alloc (Nat.le_refl _) _
 have HB0 := Lib.hid hb0
 clear hb0
 go_enter Tryz.func172, Tryz.ntmps172
 go_wp2_with fail
 refine (HU.out _ HB0.out).mono ?_
 rintro e w2 ⟨rfl, d, rfl⟩
 go_wp2_with fail
 go_ret
 exact ⟨rfl, cY (cT HB0.out (Nat.le_refl _)) d⟩
theorem Tb {b n gr gx : Nat} {F : Int -> ByteArray} {H : List Int} (h : eX w b m F) (hx : w.cell? ⟨gx, 0, none⟩ = some (.pointer (some ⟨gr, 0, none⟩))) (hlt : gx < w.heap.size) (hxb : gx ≠ b) (hr : aU w gr n H) (hrb : gr ≠ b) :
  Calls Tryz.prog 171 #[.map (some b), .func (.func 172) #[] #[.pointer (some ⟨gx, 0, none⟩)]] w fun e w' => e = .returned (.tuple #[]) /\ eX w' b m (uR H F) /\ w.grownBy w' (some b) := by
 obtain ⟨D, hown, hD⟩ := h
 obtain ⟨es0, rfl, hap, hkeys⟩ := hown.entries qE
 have HD := Lib.hid hD
 have HX : Hid (∀ (W : World) (t u : Int) (x : ByteArray), w.grownBy W (some b) -> Calls Tryz.prog 172 #[.int .i64 t, .agg #[.int .i64 u, .string x], .pointer (some ⟨gx, 0, none⟩)] W fun e w' => e = .returned (.bool (!decide (t ∈ H))) /\ W.grownBy w' none) := Lib.hid (fun W t u x hg =>
  Ta t u x ((World.cell?_of_block (a := ⟨gx, 0, none⟩) (hg.block gx hlt (by simp; exact hxb))).trans hx) (Nat.lt_of_lt_of_le hlt hg.size) ⟨hr.blk.grown hg (by simp; exact hrb), hr.ok, hr.size⟩)
 clear hD hx hlt hr
 go_enter Tryz.func171, Tryz.ntmps171
 go_wp2_with (first
  | (at_range; refine wpList_range_own _ rfl _ 64 rfl 3 74 qE Tryz.underlying64 iB b m _ rfl hown ?_; intro w0 hrg0 hg0 hs0)
  | go_in)
 go_frame
 go_loopw [4] (fun _ wr => ∃ (left : Lit -> Bool) (cnt : Nat), wr.ranges Tryz.prog 3 iB b w.heap.size m (Fk (jE H) es0 left) left cnt /\ w.grownBy wr (some b))
  (fun _ wr => wr.rangeLeft b w.heap.size)
 case atStart => exact ⟨_, _, by rw [Fk_start hkeys]; exact hrg0, hg0.but _⟩
 case round =>
  obtain ⟨left, cnt, hrg, hgw⟩ := hrel
  go_wp2_with (first
   | (at_next; refine wpList_next_ranges _ rfl _ rfl 3 qE iB (Value.int .i64) (fun p : Int × ByteArray => dJ p.1 p.2) (fun key kl hk => by obtain ⟨x, hx, _⟩ := Maps.keyOf_int_inv Tryz.underlying3 hk; exact ⟨x, hx⟩) (fun v y hv => by obtain ⟨t, x, rfl, _⟩ := pP hv; exact ⟨(t, x), rfl⟩) b w.heap.size m _ _ _ rfl hrg ?_ ?_)
   | go_in)
  ·
   intro _ hl0
   go_wp2
   go_end0
   have e := Fk_end (pd := jE H) (es0 := es0) hl0
   refine ⟨rfl, ⟨Lib.deleteFuncD (jE H) (.map es0), by rw [<- e]; exact hrg.owns, fun t ht => ?_⟩, hgw⟩
   obtain ⟨f1, f2⟩ := Nt (es := es0) (H := H) (t := t)
   unfold uR
   by_cases hm : t ∈ H
   ·rw [if_pos hm]
    obtain ⟨g1, g2⟩ := f2 hm
    exact ⟨fun hne => ⟨by rw [g1]; exact ((HD.out t ht).1 hne).1, fun zd => by rw [g2]; exact ((HD.out t ht).1 hne).2 zd⟩, fun he => by rw [g1]; exact (HD.out t ht).2 he⟩
   ·rw [if_neg hm]
    exact ⟨fun hne => absurd rfl hne, fun _ => f1 hm⟩
  ·
   intro x c1 c2 kl yd yp w1 cnt1 hkey hlx hv hat hrg1 hlt hg1 hs1 hen
   obtain ⟨x', ex, rfl, hwf⟩ := Maps.keyOf_int_inv Tryz.underlying3 hkey
   obtain rfl : x = x' := by injection ex
   have hgw1 := hgw.andThen hg1 (fun j hj => by cases hj; exact Or.inl (Nat.le_refl _))
   obtain ⟨w2, hw2⟩ : ∃ w2, w2 = w1.alloc (.cells #[.int .i64 c1, .string c2] 74) := ⟨_, rfl⟩
   have hgw2 : w.grownBy w2 (some b) := by rw [hw2]; exact hgw1.andThen (World.grownBy_alloc w1 _ none) (fun j hj => by cases hj)
   have hrg2 : w2.ranges Tryz.prog 3 iB b w.heap.size m (Fk (jE H) es0 left) (fun z => left z && !z.sameKey (.int .i64 x)) cnt1 := by rw [hw2]; exact hrg1.alloc _
   have HC := Lib.hid (HX.out w2 x c1 c2 hgw2)
   rw [hw2] at HC
   simp only [dJ] at hen
   have hkl : WideAt.IsKeyLit (Lit.int .i64 x) := trivial
   clear hs1
   by_cases hm : x ∈ H
   ·have hp : jE H (.int .i64 x) yd = false := by simp [jE, hm]
    rw [show (!decide (x ∈ H)) = false by simp [hm]] at HC
    go_wp2_with fail
    refine HC.out.mono ?_
    rintro e w3 ⟨rfl, hg3⟩
    go_wp2_with fail
    rw [<- hw2] at hg3
    have hrg3 := hrg2.kept hg3 (by simp) (by simp)
    go_roundw
    case rel => exact ⟨_, cnt1, by rw [<- Fk_stays hap hkl hlx hp hat]; exact hrg3, hgw2.andThen hg3 (fun j hj => by cases hj)⟩
    case measure => rw [hrg3.left_eq, hrg.left_eq]; exact hlt
   ·have hp : jE H (.int .i64 x) yd = true := by simp [jE, hm]
    rw [show (!decide (x ∈ H)) = true by simp [hm]] at HC
    go_wp2_with fail
    refine HC.out.mono ?_
    rintro e w3 ⟨rfl, hg3⟩
    have hrg3 := hrg2.kept (hw2 ▸ hg3) (by simp) (by simp)
    go_wp2_with (first
     | (at_delete; refine wpList_delete_ranges _ rfl _ _ 64 3 rfl 74 qE Tryz.underlying64 iB b w.heap.size m _ _ _ rfl hrg3 _ _ rfl hkey ?_; intro w4 cnt3 hrg4 hle hturn; go_frame)
     | go_in)
    rw [strike_twice] at hrg4
    rw [<- hw2] at hg3
    go_roundw
    case rel => exact ⟨_, cnt3, by rw [<- Fk_struck hap hkl hlx hp hat]; exact hrg4, (hgw2.andThen hg3 (fun j hj => by cases hj)).andThen hturn.grown (fun j hj => by cases hj; exact Or.inr rfl)⟩
    case measure => rw [hrg4.left_eq, hrg.left_eq]; omega
end
end Go.Proofs.YtingkbeifohihaaGreatDoor
