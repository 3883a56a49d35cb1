/-
  A new disk, and a sector of some bytes. No statement is proved here.
-/
import Derived.Test.YtingkbeifohihaaGreatDoorRowMore
import Derived.Test.YtingkbeifohihaaGreatDoorRoomSmall
import Derived.Test.YtingkbeifohihaaGreatDoorGrow
import Derived.Test.YtingkbeifohihaaGreatDoorHeadLib
import Derived.Test.YtingkbeifohihaaGreatDoorDiskCalls
import Derived.Maps.AppendAt
import Derived.Deep.AppendLies
import Derived.Test.YtingkbeifohihaaGreatDoorBytes
namespace Go.Proofs.YtingkbeifohihaaGreatDoor
open Go.RowKit
theorem bA.refl {w : World} {g n : Nat} {H : List Int} (h : aU w g n H) : bA w w g n H := ⟨h, aC _ _⟩
theorem bA.drewN {w w' : World} {g n : Nat} {H : List Int} (h : bA w w' g n H) (d : Nat) : bA w (w'.drewN d) g n H := ⟨h.room.drewN d, cY h.by_ d⟩
theorem bA.trans {w w' w'' : World} {g n : Nat} {H H' : List Int} (h : bA w w' g n H) (k : bA w' w'' g n H') : bA w w'' g n H' := ⟨k.room, dH h.by_ k.by_⟩
theorem bA.cell {w w' : World} {g n : Nat} {H : List Int} (h : bA w w' g n H) {p : Addr} (hp : p.block < w.heap.size) (hne : p.block ≠ g) : w'.cell? p = w.cell? p :=
 World.cell?_of_block (h.by_.block _ hp (fun e => hne (Option.some.inj e)))
theorem bA.under {w0 w w' : World} {B g n : Nat} {H : List Int} (h : bA w w' g n H) (hb : Below B w0 w) (hg : B <= g) (hB : B <= w.heap.size) : Below B w0 w' :=
 ⟨h.by_.os.trans hb.os, h.by_.tape.trans hb.tape, h.by_.output.trans hb.output, Nat.le_trans hb.size h.by_.size, fun i hi => (h.by_.block i (by omega) (fun e => by have := Option.some.inj e; omega)).trans (hb.block i hi)⟩
set_option maxRecDepth 100000
set_option maxHeartbeats 4000000
theorem Op (A : Option Addr) (m c : Nat) (l : List Int) {w : World} {g n : Nat} {H : List Int} (h : aU w g n H) (hm : l.length = m) (hx : dZ w w.heap.size A l) (hne : ∀ a, A = some a -> a.block ≠ g) (hl : m <= 1000000) :
  Calls Tryz.prog 121 #[.pointer (some ⟨g, 0, none⟩), .slice A m c] w fun e w' => e = .returned (.int .i64 ((jG H l).2 : Int)) /\ bA w w' g n (jG H l).1 := by
 have hs := h.size
 have HR := Lib.hid h
 have HX := Lib.hid hx
 have HM := Lib.hid hm
 have HNE := Lib.hid hne
 clear h hx hm hne
 go_enter Tryz.func121, Tryz.ntmps121
 go_wp2_with fail
 go_loopw [5, 10] (fun v i wr => ∃ (j k : Nat), j <= m /\ k <= j /\ i = .int .i64 j /\ v = .int .i64 k /\ (jG H (l.take j)).2 = k /\ bA w wr g n (jG H (l.take j)).1) (fun _ i _ => m - (intOf i).toNat)
 case atStart => exact ⟨0, 0, Nat.zero_le _, Nat.le_refl _, rfl, rfl, rfl, bA.refl HR.out⟩
 case round =>
  obtain ⟨j, k, hj, hk, rfl, rfl, hgk, hT⟩ := hrel
  have HT := Lib.hid hT
  have HK := Lib.hid hgk
  clear hT hgk
  by_cases hlt : j < m
  ·have hjl : j < l.length := by rw [HM.out]; exact hlt
   obtain ⟨b, off, hA, hbB, hc⟩ := HX.out (by omega)
   obtain ⟨x, hx⟩ : ∃ x, x = l[j] := ⟨_, rfl⟩
   have hxj : l[j]? = some x := by rw [hx]; exact List.getElem?_eq_getElem hjl
   have E1 := Lib.hid (Jq H hxj)
   have hbg : b ≠ g := by have := HNE.out _ hA; exact this
   have d0 : wr.cell? ⟨b, off + j, none⟩ = some (.int .i64 x) := (HT.out.cell (p := ⟨b, off + j, none⟩) hbB hbg).trans (hc j x hxj)
   obtain ⟨H1, hH1⟩ : ∃ H1, H1 = (jG H (l.take j)).1 := ⟨_, rfl⟩
   rw [<- hH1] at HT
   have hs1 : jG H (l.take j) = (H1, k) := by rw [hH1, <- HK.out]
   rw [hs1] at E1
   have HU := Lib.hid (tP x HT.out.room)
   subst hA
   have hjI : (j : Int) < (m : Int) := by omega
   obtain ⟨r, hr⟩ : ∃ r, r = decide (x ∈ H1) := ⟨_, rfl⟩
   rw [<- hr] at HU
   have HRR := Lib.hid hr
   clear hx hxj hc hbg hH1 hs1 hjl hr
   cases r with
   | false =>
     have hno : x ∉ H1 := of_decide_eq_false HRR.out.symm
     have hgs : jG H (l.take (j + 1)) = (H1, k) := by rw [E1.out]; unfold Gg; rw [if_neg hno]
     have HGS := Lib.hid hgs
     clear hno hgs
     go_wp2_with fail
     refine HU.out.mono ?_
     rintro e w2 ⟨rfl, d, rfl⟩
     go_wp2_with fail
     go_roundw
     case rel => exact ⟨j + 1, k, by omega, by omega, by go_num, rfl, by rw [HGS.out], by rw [HGS.out]; exact HT.out.drewN d⟩
     case measure => simp [intOf]; omega
   | true =>
     have hyes : x ∈ H1 := of_decide_eq_true HRR.out.symm
     have hgs : jG H (l.take (j + 1)) = (fW x H1, k + 1) := by rw [E1.out]; unfold Gg; rw [if_pos hyes]
     have HGS := Lib.hid hgs
     obtain ⟨x0, x1⟩ := HT.out.room.ok.range x hyes
     obtain ⟨i, rfl⟩ := Int.eq_ofNat_of_zero_le x0
     have hin : i < n := by omega
     clear hyes hgs x0 x1
     go_wp2_with fail
     refine HU.out.mono ?_
     rintro e w2 ⟨rfl, d, rfl⟩
     obtain ⟨w2, hw2⟩ : ∃ w2, w2 = wr.drewN d := ⟨_, rfl⟩
     have HT2 : Hid (bA w w2 g n H1) := Lib.hid (by rw [hw2]; exact HT.out.drewN d)
     rw [<- hw2]
     clear hw2 d0 HU
     have HB := Lib.hid (Dg i (by omega))
     obtain ⟨q, hq⟩ : ∃ q, q = i / 8 := ⟨_, rfl⟩
     obtain ⟨y, hy⟩ : ∃ y, y = cV (jS H1) (i / 8) := ⟨_, rfl⟩
     obtain ⟨z, hz⟩ : ∃ z, z = 2 ^ (i % 8) := ⟨_, rfl⟩
     obtain ⟨u, hu⟩ : ∃ u, u = y &&& (255 - z) := ⟨_, rfl⟩
     have hq8 : q < 238 := by omega
     have hq1 : (i : Int) / 8 = (q : Int) := by omega
     have hq2 : (i : Int).tdiv 8 = (q : Int) := by rw [Int.tdiv_eq_ediv_of_nonneg (by omega)]; exact hq1
     have hqI : (q : Int) < 238 := by omega
     have hqw : IntKind.i64.wrap (q : Int) = (q : Int) := by rw [IntKind.wrap_i64]; omega
     have han : bits .andNot .u8 (y : Int) (z : Int) = (u : Int) := by
      rw [hu]
      exact u8_andNot_nat y z (by rw [hy]; exact oX _ _) (by rw [hz]; exact Jo _ (by omega))
     have c1 : w2.cell? ⟨g, 1 + q, none⟩ = some (.int .u8 (y : Int)) := by rw [hy, <- hq]; exact HT2.out.room.byte hq8
     have f1 : w2.frozen? ⟨g, 1 + q, none⟩ = false := HT2.out.room.blk.frozen _
     have hgl := HT2.out.room.lt
     rw [<- hz] at HB
     have HTC := Lib.hid (HT2.out.room.clear (i := i) (b := u) (by rw [hu, hy, hz]))
     rw [<- hq] at HTC
     have HW : Hid (∀ W, Calls Tryz.prog 142 #[.int .i64 (i : Int)] W fun e w' => e = .returned (.int .u8 (z : Int)) /\ w' = W) := HB
     clear hu hz hy hq
     go_upto_region 6 with fail
     go_still_tail 13, (by kernel_rfl)
     still_call (HW.out _)
     repeat still_step
     refine wpStill_nil ?_
     change wpList _ _ _ _ _ w2.drew
     go_wp2_with fail
     go_roundw
     case rel =>
      refine ⟨j + 1, k + 1, by omega, by omega, by go_num, by go_num, by rw [HGS.out], ?_⟩
      rw [HGS.out]
      have := HT2.out.trans HTC.out
      exact ⟨this.room.drewN 1, ⟨this.by_.os, this.by_.tape, this.by_.output, this.by_.size, this.by_.block⟩⟩
     case measure => simp [intOf]; omega
  ·obtain rfl : j = m := by omega
   have htk : l.take j = l := List.take_of_length_le (by rw [HM.out]; exact Nat.le_refl _)
   rw [htk] at HT HK
   clear htk
   go_wp2_with fail
   go_ret
   exact ⟨by rw [HK.out]; rfl, HT.out⟩
theorem Tz (w : World) : (isAgg 95).run Tryz.prog w = .ok true w := by kernel_rfl
theorem Oq (w : World) : (sizeOf 95).run Tryz.prog w = .ok 239 w := by kernel_rfl
theorem Ot (n : Nat) (P : Nat -> Bool) : (kU n P).all (·.oneCell') = true := by
 rw [Array.all_eq_true_iff_forall_mem]
 intro v hv
 unfold kU yL at hv
 rw [List.mem_toArray] at hv
 rcases List.mem_cons.1 hv with rfl | hv
 ·rfl
 ·obtain ⟨k, _, rfl⟩ := List.mem_map.1 hv
  rfl
theorem pT {w : World} {g n : Nat} {H : List Int} (h : aU w g n H) : Calls Tryz.prog 42 #[.pointer (some ⟨g, 0, none⟩)] w fun e w' => e = .returned (.pointer (some ⟨w.heap.size, 0, none⟩)) /\ aU w' w.heap.size n H /\ Below w.heap.size w w' := by
 have HR := Lib.hid h
 obtain ⟨C, hC⟩ : ∃ C, C = kU n (jS H) := ⟨_, rfl⟩
 obtain ⟨Z, hZ⟩ : ∃ Z, Z = kU 0 (fun _ => false) := ⟨_, rfl⟩
 have hz : ∀ w, (zeroValue 95).run Tryz.prog w = .ok (.agg Z) w := fun w => by rw [hZ]; kernel_rfl
 have hCZ : C.size = Z.size := by rw [hC, hZ, qY, qY]
 have h1 : C.all (·.oneCell') = true := by rw [hC]; exact Ot _ _
 have hsz : ∀ w, (sizeOf 95).run Tryz.prog w = .ok C.size w := fun w => by rw [hC, qY]; exact Oq w
 have hb : aG w g 95 C := by rw [hC]; exact h.blk
 have hgl := h.lt
 clear h
 go_enter Tryz.func42, Tryz.ntmps42
 go_upto_region 3 with fail
 refine wp_region_lit ?_
 refine aK (v := .pointer (some ⟨g, 0, none⟩)) rfl rfl ?_
 refine aK (v := .pointer (some ⟨g, 0, none⟩)) rfl rfl ?_
 refine cZ rfl rfl rfl (eR hb Tz hsz) ?_
 refine aK (v := .pointer (some ⟨w.heap.size, 0, none⟩)) (w' := w.alloc (.cells Z 95)) rfl (by go_simp) ?_
 refine cL rfl rfl rfl rfl (cN (aG.new w _ Z) hCZ h1 hsz) ?_
 have hb1 : Below w.heap.size w ((w.alloc (.cells Z 95)).setRow w.heap.size C) := below_setRow ((Below.refl _ _).alloc (Nat.le_refl _) _) (Nat.le_refl _) _
 have hB : aG ((w.alloc (.cells Z 95)).setRow w.heap.size C) w.heap.size 95 C := bQ (aG.new w _ Z) C
 obtain ⟨W1, hW1⟩ : ∃ W1, W1 = (w.alloc (.cells Z 95)).setRow w.heap.size C := ⟨_, rfl⟩
 rw [<- hW1] at hb1 hB
 rw [<- hW1]
 have HD : Hid (aU W1 w.heap.size n H) := Lib.hid ⟨by rw [hC] at hB; exact hB, HR.out.ok, HR.out.size⟩
 have HB := Lib.hid hb1
 clear hW1 hb1 hB hC hZ hCZ h1 hsz hz hb
 go_wp2_with fail
 go_ret
 exact ⟨rfl, HD.out, HB.out⟩
def sL (l : List Int) : List Int := l.foldl (fun a x => mD x a) []
theorem De {l : List Int} {j : Nat} {x : Int} (h : l[j]? = some x) : sL (l.take (j + 1)) = mD x (sL (l.take j)) := by
 unfold sL
 rw [List.take_add_one, h, List.foldl_append]
 rfl
theorem Ua (n : Nat) (A : Option Addr) (m c : Nat) (l : List Int) (w : World) (hn0 : 1 <= n) (hn : n <= 1900) (hm : l.length = m) (hx : dZ w w.heap.size A l) (hl : m <= 1000000) :
  Calls Tryz.prog 54 #[.int .i64 (n : Int), .slice A m c] w fun e w' => Below w.heap.size w w' /\
   (((∀ x ∈ l, 0 <= x /\ x < (n : Int)) /\ e = .returned (.tuple #[.pointer (some ⟨w.heap.size, 0, none⟩), .int .i64 0]) /\ aU w' w.heap.size n (sL l)) \/
    (¬ (∀ x ∈ l, 0 <= x /\ x < (n : Int)) /\ e = .returned (.tuple #[.pointer none, .int .i64 1]))) := by
 have HX := Lib.hid hx
 have HM := Lib.hid hm
 obtain ⟨Z, hZ⟩ : ∃ Z, Z = kU n (jS []) := ⟨_, rfl⟩
 have hn0I : 1 <= (n : Int) := by omega
 have hnI : (n : Int) <= 1900 := by omega
 clear hx hm
 go_enter Tryz.func54, Tryz.ntmps54
 go_upto_region 3 with fail
 refine wp_region_lit ?_
 refine aK (v := .int .i64 (n : Int)) rfl rfl ?_
 refine aK (v := .agg Z) (w' := w) rfl (by rw [hZ]; kernel_rfl) ?_
 refine aK (v := .pointer (some ⟨w.heap.size, 0, none⟩)) (w' := w.alloc (.cells Z 95)) rfl (by go_simp) ?_
 have hb1 : Below w.heap.size w (w.alloc (.cells Z 95)) := (Below.refl _ _).alloc (Nat.le_refl _) _
 have hB := aG.new w 95 Z
 obtain ⟨W1, hW1⟩ : ∃ W1, W1 = w.alloc (.cells Z 95) := ⟨_, rfl⟩
 rw [<- hW1] at hb1 hB
 rw [<- hW1]
 obtain ⟨g, hg⟩ : ∃ g, g = w.heap.size := ⟨_, rfl⟩
 rw [<- hg] at hB ⊢
 have HD : Hid (bA W1 W1 g n []) := Lib.hid (bA.refl ⟨by rw [hZ] at hB; exact hB, oZ.nil n, hn⟩)
 have HB := Lib.hid hb1
 have HG := Lib.hid hg
 clear hW1 hb1 hB hZ hg
 go_wp2_with fail
 go_loopw [20] (fun i wr => ∃ (j : Nat), j <= m /\ i = .int .i64 j /\ (∀ x ∈ l.take j, 0 <= x /\ x < (n : Int)) /\ bA W1 wr g n (sL (l.take j))) (fun i _ => m - (intOf i).toNat)
 case atStart => exact ⟨0, Nat.zero_le _, rfl, (fun x hx => by cases hx), HD.out⟩
 case round =>
  obtain ⟨j, hj, rfl, hok, hT⟩ := hrel
  have HT := Lib.hid hT
  have HOK := Lib.hid hok
  have HBR : Hid (Below w.heap.size w wr) := Lib.hid (hT.under HB.out (by rw [HG.out]; exact Nat.le_refl _) HB.out.size)
  clear hT hok
  by_cases hlt : j < m
  ·have hjl : j < l.length := by rw [HM.out]; exact hlt
   obtain ⟨b, off, hA, hbB, hc⟩ := HX.out (by omega)
   obtain ⟨x, hx⟩ : ∃ x, x = l[j] := ⟨_, rfl⟩
   have hxj : l[j]? = some x := by rw [hx]; exact List.getElem?_eq_getElem hjl
   have HXM := Lib.hid (List.mem_of_getElem? hxj)
   have E1 := Lib.hid (De hxj)
   have E2 : Hid (l.take (j + 1) = l.take j ++ [x]) := Lib.hid (by rw [List.take_add_one, hxj]; rfl)
   have d0 : wr.cell? ⟨b, off + j, none⟩ = some (.int .i64 x) := (HBR.out.cell (p := ⟨b, off + j, none⟩) hbB).trans (hc j x hxj)
   have HH := Lib.hid (yN x HT.out.room)
   subst hA
   have hjI : (j : Int) < (m : Int) := by omega
   clear hx hxj hc hjl
   by_cases hin : 0 <= x /\ x < (n : Int)
   ·rw [decide_eq_true hin] at HH
    obtain ⟨x0, x1⟩ := hin
    obtain ⟨i, rfl⟩ := Int.eq_ofNat_of_zero_le x0
    have HS := Lib.hid (Gd i HT.out.room (by omega))
    have HX1 := Lib.hid x1
    clear x0 x1
    go_wp2_with fail
    refine HH.out.mono ?_
    rintro e w2 ⟨rfl, rfl⟩
    go_wp2_with fail
    refine HS.out.mono ?_
    rintro e w3 ⟨rfl, hT3⟩
    have HT3 := Lib.hid (HT.out.trans hT3)
    clear hT3
    go_wp2_with fail
    go_roundw
    case rel =>
     refine ⟨j + 1, by omega, by go_num, fun y hy => ?_, by rw [E1.out]; exact HT3.out⟩
     rw [E2.out] at hy
     rcases List.mem_append.1 hy with hy | hy
     ·exact HOK.out y hy
     ·rw [List.mem_singleton.1 hy]
      exact ⟨by omega, HX1.out⟩
    case measure => simp [intOf]; omega
   ·have HIN := Lib.hid hin
    rw [decide_eq_false hin] at HH
    clear hin
    go_wp2_with fail
    refine HH.out.mono ?_
    rintro e w2 ⟨rfl, rfl⟩
    go_wp2_with fail
    go_ret2
    exact ⟨HBR.out, .inr ⟨fun h => HIN.out (h _ HXM.out), rfl⟩⟩
  ·obtain rfl : j = m := by omega
   have htk : l.take j = l := List.take_of_length_le (by rw [HM.out]; exact Nat.le_refl _)
   rw [htk] at HT HOK
   clear htk
   go_wp2_with fail
   go_ret2
   refine ⟨HBR.out, .inl ⟨HOK.out, ?_, ?_⟩⟩
   ·rw [<- HG.out]; rfl
   ·rw [<- HG.out]; exact HT.out.room
set_option maxRecDepth 100000
set_option maxHeartbeats 4000000
theorem Pp {P : Program} {o : Oper} {x : Act} {s1 s2 : Operand} {t1 t2 : TypeId} {v1 v2 v : Value} {w w' : World} (ho : o.op = .call { callee := .builtin .copy, args := #[s1, s2], argTypes := #[t1, t2] }) (h1 : x.eval s1 = v1) (h2 : x.eval s2 = v2)
  (hr : (Builtin.copy_ #[t1, t2] o.type #[v1, v2]).run P w = .ok v w') : (execOp x.eval o).run P w = .ok (.value v) w' := by
 unfold execOp
 simp only [ho, resolve, invoke, builtin, Sem.run_bind, Sem.run_pure, Result.andThen_ok, List.map_toArray, List.map_cons, List.map_nil, h1, h2, hr]
theorem Xu (x y : Nat) (hx : x < 18446744073709551616) (hy : y < 18446744073709551616) (w : World) :
  Calls Tryz.prog 87 #[.int .u64 x, .int .u64 y] w fun e w' => e = .returned (.tuple #[.int .u64 ((x * y / 18446744073709551616 : Nat) : Int), .int .u64 ((x * y % 18446744073709551616 : Nat) : Int)]) /\ w' = w := Any.bits_Mul { Li with } x y hx hy w
def iG (z : ByteArray) (k n : Nat) : List Value := List.replicate k (Value.string z) ++ List.replicate (n - k) (Value.string .empty)
theorem Up (z : ByteArray) {k n : Nat} (h : k <= n) : (iG z k n).length = n := by unfold iG; simp; omega
theorem Uq (z : ByteArray) (n : Nat) : iG z n n = (List.replicate n z).map Value.string := by unfold iG; simp
theorem Gp : (Tryz.prog.info? 9).map (·.size) = some 1 := by kernel_rfl
theorem Ur (z : ByteArray) {k n j : Nat} {u : Value} (h : (List.replicate j (Value.string z))[k]? = some u) : (iG z j n)[k]? = some u := by
 unfold iG
 have hk : k < j := by
  rcases Nat.lt_or_ge k j with h1 | h1
  ·exact h1
  ·rw [List.getElem?_eq_none (by simpa using h1)] at h; cases h
 rw [List.getElem?_append_left (by simpa using hk)]
 exact h
theorem Bz (z : ByteArray) {k d n : Nat} (hd : k + d <= n) : (iG z k n).take k ++ List.replicate d (Value.string z) ++ (iG z k n).drop (k + d) = iG z (k + d) n := by
 apply List.ext_getElem?
 intro i
 unfold iG
 simp only [List.getElem?_append, List.length_append, List.length_take, List.length_replicate, List.getElem?_take, List.getElem?_drop, List.getElem?_replicate]
 have e1 : min k (k + (n - k)) = k := by omega
 simp only [e1]
 by_cases h1 : i < k
 ·simp [h1, show i < k + d by omega]
 ·by_cases h2 : i < k + d
  ·simp [h1, h2, show i - k < d by omega]
  ·by_cases h3 : i < n
   ·simp [h2, show ¬ (k + d + (i - (k + d)) < k) by omega, show k + d + (i - (k + d)) - k < n - k by omega, show i - (k + d) < n - (k + d) by omega]
   ·simp [h2, show ¬ (k + d + (i - (k + d)) < k) by omega, show ¬ (k + d + (i - (k + d)) - k < n - k) by omega, show ¬ (i - (k + d) < n - (k + d)) by omega]
theorem Us (z : ByteArray) (n g0 : Nat) (w : World) (hn : n <= 5000) (hn1 : 1 <= n) (hg : w.cell? ⟨g0, 0, none⟩ = some (.string z)) :
  Calls Tryz.prog 51 #[.slice (some ⟨g0, 0, none⟩) 1 1, .int .i64 (n : Int)] w fun e w' => e = .returned (.slice (some ⟨w.heap.size, 0, none⟩) n n) /\ aG w' w.heap.size 9 ((List.replicate n z).map Value.string).toArray /\ Below w.heap.size w w' := by
 have HM := Lib.hid (Xu 1 n (by omega) (by omega) w)
 rw [Nat.one_mul, Nat.div_eq_of_lt (by omega : n < 18446744073709551616), Nat.mod_eq_of_lt (by omega : n < 18446744073709551616)] at HM
 obtain ⟨i0, hi0, hz0, hz1, hz2⟩ := info_parts sH
 obtain ⟨q, hq⟩ : ∃ q : Int, q = (n : Int) := ⟨_, rfl⟩
 have HQ := Lib.hid hq
 have q0 : 1 <= q := by omega
 have q1 : q <= 5000 := by omega
 have hmk : (Instr.makeSlice 22 (.int .i64 q) (.int .i64 q)).run Tryz.prog w = .ok (.slice (some ⟨w.heap.size, 0, none⟩) n n) (w.alloc (.cells (iG z 0 n).toArray 9)) := by
  have hr := run_makeSlice (P := Tryz.prog) w 22 9 i0 (.string .empty) Tryz.underlying22 hi0 hz0 .i64 .i64 q q (by omega) (Int.le_refl _) (by rw [hz1]; omega) (by rw [hz2]; omega) (by omega)
  have hc : madeCells (Value.string .empty).cells (q.toNat * i0.size) = (iG z 0 n).toArray := by
   rw [hz1, Nat.mul_one, hq, Int.toNat_natCast]
   refine Array.toList_inj.1 ?_
   rw [show (Value.string .empty).cells = #[Value.string .empty] from rfl, toList_madeCells_one]
   simp [iG]
  rw [hc, show q.toNat = n by omega] at hr
  exact hr
 rw [<- hq] at HM ⊢
 have hgl := World.block_lt_of_cell? w _ hg
 have hB0 : aG (w.alloc (.cells (iG z 0 n).toArray 9)) w.heap.size 9 (iG z 0 n).toArray := aG.new w _ _
 have hcp := run_copy_row (P := Tryz.prog) (w.alloc (.cells (iG z 0 n).toArray 9)) 22 22 3 9 w.heap.size 0 n n ⟨g0, 0, none⟩ 1 1 (iG z 0 n).toArray 9 [.string z] Tryz.underlying22 Gp hB0 (by show 1 = min 1 n; omega)
  (by
   intro j v hj
   have : j = 0 := by
    rcases Nat.lt_or_ge j 1 with h | h
    ·omega
    ·rw [List.getElem?_eq_none (by simpa using h)] at hj; cases hj
   subst this
   simp at hj
   subst hj
   rw [Go.WideShapes.add_plain, World.cell?_of_block (Below.heap_alloc w _ g0 hgl)]
   exact hg) (by simp [iG]; omega) (by intro v hv; simp at hv; subst hv; rfl)
 have hrc : ((iG z 0 n).toArray.toList.take 0 ++ [Value.string z] ++ (iG z 0 n).toArray.toList.drop (0 + [Value.string z].length)) = iG z 1 n := by
  have := Bz z (k := 0) (d := 1) (n := n) (by omega)
  simpa using this
 rw [hrc] at hcp
 obtain ⟨W1, hW1⟩ : ∃ W1, W1 = (w.alloc (.cells (iG z 0 n).toArray 9)).setRow w.heap.size (iG z 1 n).toArray := ⟨_, rfl⟩
 rw [<- hW1] at hcp
 have hcp : (Builtin.copy_ #[22, 22] 3 #[.slice (some ⟨w.heap.size, 0, none⟩) n n, .slice (some ⟨g0, 0, none⟩) 1 1]).run Tryz.prog (w.alloc (.cells (iG z 0 n).toArray 9)) = .ok (.int .i64 1) W1 := hcp
 have HB1 : Hid (aG W1 w.heap.size 9 (iG z 1 n).toArray) := Lib.hid (by rw [hW1]; exact bQ hB0 _)
 have HK1 : Hid (Below w.heap.size w W1) := Lib.hid (by
  rw [hW1]
  exact below_setRow ((Below.refl _ _).alloc (Nat.le_refl _) _) (Nat.le_refl _) _)
 have HN1 := Lib.hid hn1
 clear hq hg hgl hi0 hz0 hz1 hz2 hB0 hrc hW1 hn1
 go_enter Tryz.func51, Tryz.ntmps51
 go_wp2_with (first
  | (go_at_call 87; refine HM.out.mono ?_; rintro e w1 ⟨rfl, hw⟩; rw [hw]; clear hw)
  | fail)
 clear hcp hmk
 go_loopw [8] (fun v wr => ∃ k : Nat, 1 <= k /\ k <= n /\ v = .int .i64 k /\ aG wr w.heap.size 9 (iG z k n).toArray /\ Below w.heap.size w wr) (fun v _ => n - (intOf v).toNat)
 case atStart => exact ⟨1, Nat.le_refl _, HN1.out, rfl, HB1.out, HK1.out⟩
 case round =>
  obtain ⟨k, hk1, hkn, rfl, hb, hbe⟩ := hrel
  have HB := Lib.hid hb
  have HBE := Lib.hid hbe
  clear hb hbe HB1 HK1
  by_cases hlt : k < n
  ·go_upto_region 9 with fail
   obtain ⟨d, hd⟩ : ∃ d, d = min k (n - k) := ⟨_, rfl⟩
   have hd1 : d <= k := by omega
   have hd2 : k + d <= n := by omega
   have hd3 : 1 <= d := by omega
   have hcp := run_copy_row (P := Tryz.prog) wr.drew 22 22 3 9 w.heap.size k (n - k) (n - k) ⟨w.heap.size, 0, none⟩ k n (iG z k n).toArray 9 (List.replicate d (.string z)) Tryz.underlying22 Gp HB.out.drew (by rw [List.length_replicate]; show d = min k (n - k); omega)
    (by
     intro j v hj
     rw [Go.WideShapes.add_plain, Nat.zero_add, HB.out.drew.cell]
     rw [List.getElem?_toArray]
     refine Ur z ?_
     rw [List.getElem?_replicate] at hj ⊢
     split at hj
     ·rw [if_pos (by omega)]; exact hj
     ·cases hj) (by rw [List.length_replicate, List.size_toArray, Up z hkn]; exact hd2) (by intro v hv; rw [List.eq_of_mem_replicate hv]; rfl)
   rw [List.length_replicate, List.toList_toArray, Bz z hd2] at hcp
   obtain ⟨W2, hW2⟩ : ∃ W2, W2 = wr.drew.setRow w.heap.size (iG z (k + d) n).toArray := ⟨_, rfl⟩
   rw [<- hW2] at hcp
   have HCP : Hid ((Builtin.copy_ #[22, 22] 3 #[.slice (some ⟨w.heap.size, k, none⟩) (n - k) (n - k), .slice (some ⟨w.heap.size, 0, none⟩) k n]).run Tryz.prog wr.drew = .ok (.int .i64 (d : Int)) W2) := Lib.hid hcp
   have HB2 : Hid (aG W2 w.heap.size 9 (iG z (k + d) n).toArray) := Lib.hid (by rw [hW2]; exact bQ HB.out.drew _)
   have HK2 : Hid (Below w.heap.size w W2) := Lib.hid (by rw [hW2]; exact below_setRow HBE.out.drew (Nat.le_refl _) _)
   have HD := Lib.hid (And.intro hd1 (And.intro hd2 hd3))
   have hnI : (k : Int) <= (n : Int) := by omega
   have hne : ¬ n = k := by omega
   have hk0 : (n - k : Nat) = n - k := rfl
   clear hcp hW2 hd hd1 hd2 hd3 hk0
   refine nX 38 9 46 1 (fun | 0 => .int .i64 (k : Int) | 1 => .slice (some ⟨w.heap.size, 0, none⟩) n n | 2 => .int .i64 (k : Int) | 3 => .slice (some ⟨w.heap.size, k, none⟩) (n - k) (n - k) | 4 => .slice (some ⟨w.heap.size, 0, none⟩) n n | 5 => .int .i64 (k : Int) | 6 => .slice (some ⟨w.heap.size, 0, none⟩) k n | 7 => .int .i64 (d : Int) | _ => .int .i64 ((k + d : Nat) : Int))
    (fun L w' => w' = if L 7 then W2 else wr.drew) (by kernel_rfl) (by kernel_rfl) rfl (by omega) (by kernel_rfl) rfl (by simp) rfl ?hops ?hrest
   case hops =>
    intro j hj L x w' hc hF hLj hJ hw hv
    have HJ := Lib.hid hJ
    clear hJ
    rcases (show j = 0 \/ j = 1 \/ j = 2 \/ j = 3 \/ j = 4 \/ j = 5 \/ j = 6 \/ j = 7 \/ j = 8 by omega) with rfl | rfl | rfl | rfl | rfl | rfl | rfl | rfl | rfl
    ·have t0 : x.tmps[8]?.getD undef = .int .i64 (k : Int) := by rw [hF.2.2 8 (by omega)]; rfl
     clear hw hv hF
     refine aA (v := .int .i64 (k : Int)) (w' := w') rfl rfl ?_ ⟨rfl, HJ.out⟩
     go_simp
    ·have t0 : x.tmps[7]?.getD undef = .slice (some ⟨w.heap.size, 0, none⟩) n n := by rw [hF.2.2 7 (by omega)]; rfl
     clear hw hv hF
     refine aA (v := .slice (some ⟨w.heap.size, 0, none⟩) n n) (w' := w') rfl rfl ?_ ⟨rfl, HJ.out⟩
     go_simp
    ·have t0 : x.tmps[8]?.getD undef = .int .i64 (k : Int) := by rw [hF.2.2 8 (by omega)]; rfl
     clear hw hv hF
     refine aA (v := .int .i64 (k : Int)) (w' := w') rfl rfl ?_ ⟨rfl, HJ.out⟩
     go_simp
    ·have t0 : x.tmps[39]?.getD undef = .slice (some ⟨w.heap.size, 0, none⟩) n n := hv 1 (of_decide_eq_true (by kernel_rfl)) (by omega)
     have t1 : x.tmps[40]?.getD undef = .int .i64 (k : Int) := hv 2 (of_decide_eq_true (by kernel_rfl)) (by omega)
     clear hw hv hF
     refine aA (v := .slice (some ⟨w.heap.size, k, none⟩) (n - k) (n - k)) (w' := w') rfl rfl ?_ ⟨rfl, HJ.out⟩
     go_simp
    ·have t0 : x.tmps[7]?.getD undef = .slice (some ⟨w.heap.size, 0, none⟩) n n := by rw [hF.2.2 7 (by omega)]; rfl
     clear hw hv hF
     refine aA (v := .slice (some ⟨w.heap.size, 0, none⟩) n n) (w' := w') rfl rfl ?_ ⟨rfl, HJ.out⟩
     go_simp
    ·have t0 : x.tmps[8]?.getD undef = .int .i64 (k : Int) := by rw [hF.2.2 8 (by omega)]; rfl
     clear hw hv hF
     refine aA (v := .int .i64 (k : Int)) (w' := w') rfl rfl ?_ ⟨rfl, HJ.out⟩
     go_simp
    ·have t0 : x.tmps[42]?.getD undef = .slice (some ⟨w.heap.size, 0, none⟩) n n := hv 4 (of_decide_eq_true (by kernel_rfl)) (by omega)
     have t1 : x.tmps[43]?.getD undef = .int .i64 (k : Int) := hv 5 (of_decide_eq_true (by kernel_rfl)) (by omega)
     clear hw hv hF
     refine aA (v := .slice (some ⟨w.heap.size, 0, none⟩) k n) (w' := w') rfl rfl ?_ ⟨rfl, HJ.out⟩
     go_simp
    ·have t0 : x.tmps[41]?.getD undef = .slice (some ⟨w.heap.size, k, none⟩) (n - k) (n - k) := hv 3 (of_decide_eq_true (by kernel_rfl)) (by omega)
     have t1 : x.tmps[44]?.getD undef = .slice (some ⟨w.heap.size, 0, none⟩) k n := hv 6 (of_decide_eq_true (by kernel_rfl)) (by omega)
     have hJ := HJ.out
     rw [hLj] at hJ
     have hJ' : w' = wr.drew := hJ
     subst hJ'
     clear hw hv hF hJ HJ
     exact aA (v := .int .i64 (d : Int)) (w' := W2) rfl rfl (Pp rfl (by simpa [Act.eval] using t0) (by simpa [Act.eval] using t1) HCP.out) ⟨rfl, by simp⟩
    ·have t0 : x.tmps[38]?.getD undef = .int .i64 (k : Int) := hv 0 (of_decide_eq_true (by kernel_rfl)) (by omega)
     have t1 : x.tmps[45]?.getD undef = .int .i64 (d : Int) := hv 7 (of_decide_eq_true (by kernel_rfl)) (by omega)
     have hs : IntKind.i64.wrap ((k : Int) + (d : Int)) = (k : Int) + (d : Int) := by rw [IntKind.wrap_i64]; have := HD.out; omega
     have hb1 : (k : Int) <= 5000 := by have := HQ.out; omega
     have hb2 : (d : Int) <= 5000 := by have := HD.out; omega
     clear hw hv hF
     refine aA (v := .int .i64 ((k + d : Nat) : Int)) (w' := w') rfl rfl ?_ ⟨rfl, HJ.out⟩
     rw [show ((k + d : Nat) : Int) = (k : Int) + (d : Int) by omega]
     go_simp
   case hrest =>
    intro L w' hL hJ
    rw [hL 7 (by omega)] at hJ
    have hJ' : w' = W2 := hJ
    subst hJ'
    clear hL hJ L
    rw [show List.range' 9 1 = [9] from rfl]
    simp only [iC, List.range, List.range.loop, List.foldl, Nat.reduceAdd, List.setIfInBounds_toArray, List.set_cons_succ, List.set_cons_zero]
    rw [wpOps_cons]
    refine aA (v := .int .i64 ((k + d : Nat) : Int)) (w' := w') rfl rfl (by go_simp) ?_
    change wpOps _ _ _ [] (Act.put _ (some 8) (.int .i64 ((k + d : Nat) : Int))) _
    simp only [wpOps, Act.put, List.setIfInBounds_toArray, List.set_cons_succ, List.set_cons_zero]
    go_wp2_with fail
    go_roundw
    case rel => exact ⟨k + d, by omega, HD.out.2.1, by rw [Int.natCast_add], HB2.out, HK2.out⟩
    case measure => have := HD.out; simp [intOf]; omega
  ·obtain rfl : k = n := by omega
   go_wp2_with fail
   go_ret
   exact ⟨rfl, by rw [<- Uq]; exact HB.out, HBE.out⟩
set_option maxRecDepth 100000
set_option maxHeartbeats 2000000
theorem sS (c : Nat) : Lib.repeatL [0] c = List.replicate c 0 := by
 induction c with
 | zero => rfl
 | succ c ih => show [0] ++ Lib.repeatL [0] c = _; rw [ih]; rfl
theorem Uo (q : Int) (n : Nat) (w : World) (hq : q = (n : Int)) (h1 : 140 <= q) (h2 : q <= 2000) :
  Calls Tryz.prog 25 #[.int .i64 q] w fun e w' => ∃ g O, e = .returned (.tuple #[.pointer (some ⟨g, 0, none⟩), .int .i64 0]) /\ bE w' O g (DS.fresh n (aY 256)) /\ (∀ b ∈ O, w.heap.size <= b) /\ Below w.heap.size w w' := by
 have HS := Lib.hid (qL ⟨#[0]⟩ 256 w (by omega) (by decide))
 rw [show (⟨(Lib.repeatL (⟨#[0]⟩ : ByteArray).data.toList 256).toArray⟩ : ByteArray) = aY 256 by show (⟨(Lib.repeatL [0] 256).toArray⟩ : ByteArray) = _; rw [sS]; rfl] at HS
 have HQ := Lib.hid hq
 have HR : Hid (∀ (W : World) (g0 : Nat), W.cell? ⟨g0, 0, none⟩ = some (.string (aY 256)) -> Calls Tryz.prog 51 #[.slice (some ⟨g0, 0, none⟩) 1 1, .int .i64 q] W fun e w' => e = .returned (.slice (some ⟨W.heap.size, 0, none⟩) n n) /\ aG w' W.heap.size 9 ((List.replicate n (aY 256)).map Value.string).toArray /\ Below W.heap.size W w') :=
  Lib.hid (fun W g0 hW => by rw [hq]; exact Us (aY 256) n g0 W (by omega) (by omega) hW)
 have HC : Hid (∀ (W : World) (g0 : Nat), aG W g0 9 ((List.replicate n (aY 256)).map Value.string).toArray -> Calls Tryz.prog 52 #[.slice (some ⟨g0, 0, none⟩) n n] W fun e w' => ∃ v, e = .returned v /\ w'.ownsRow W.heap.size 9 1 v n ((List.replicate n (aY 256)).map Value.string) /\ Below W.heap.size W w') :=
  Lib.hid (fun W g0 hW => Fv _ n n (List.replicate n (aY 256)) W (by simp) (by
   intro ad e j u hu
   injection e with e
   subst e
   rw [Go.WideShapes.add_plain, Nat.zero_add, hW.cell, List.getElem?_toArray]
   exact hu) (by intro e; cases e) (by omega))
 have HNB : Hid (1 <= n /\ n <= 2000) := Lib.hid (by omega)
 obtain ⟨z, hz⟩ : ∃ z, z = aY 256 := ⟨_, rfl⟩
 rw [<- hz] at HS HR HC ⊢
 clear hq hz
 go_enter Tryz.func25, Tryz.ntmps25
 go_wp2_with (go_at_call 50; refine HS.out.mono ?_; rintro e w1 ⟨rfl, hb1⟩)
 refine (HR.out (w1.alloc (.cells #[.string z] 9)) w1.heap.size (by rw [(aG.new w1 9 #[.string z]).cell 0]; rfl)).mono ?_
 rintro e w2 ⟨rfl, hk2, hb2⟩
 have hs1 : (w1.alloc (.cells #[.string z] 9)).heap.size = w1.heap.size + 1 := by simp
 have hc2 : Below w.heap.size w w2 := (hb1.alloc hb1.size _).trans (hb2.mono (by have := hb1.size; omega))
 rw [hs1] at hk2 ⊢
 have hs2 : w1.heap.size + 1 < w2.heap.size := hk2.lt
 have hs0 : w.heap.size <= w1.heap.size := hb1.size
 clear hb1 hb2 hs1
 go_wp2_with fail
 refine (HC.out w2 (w1.heap.size + 1) hk2).mono ?_
 rintro e w3 ⟨v, rfl, hrow, hb3⟩
 obtain ⟨p, c, rfl, hnc, hcc, hpn, hpa⟩ := iR hrow
 have hc3 : Below w.heap.size w w3 := hc2.trans (hb3.mono hc2.size)
 have hk3 : aG w3 (w1.heap.size + 1) 9 _ := hk2.below hb3 hs2
 have HROW := Lib.hid hrow
 have HK3 := Lib.hid hk3
 have HC3 := Lib.hid hc3
 have HB3 := Lib.hid hb3.size
 have HP := Lib.hid (And.intro hpn hpa)
 clear hrow hk3 hc3 hk2 hc2 hb3 hpn hpa hnc hcc
 go_wp2_with fail
 go_ret2
 have hpo : ∃ gs, p = some ⟨gs, 0, none⟩ := by
  cases hp : p with
  | none => have := HP.out.1 hp; have := HNB.out; omega
  | some a => exact ⟨a.block, by rw [HP.out.2 a hp]⟩
 obtain ⟨gs, rfl⟩ := hpo
 have hgs := HROW.out.lt gs rfl
 have hsz3 := HB3.out
 refine ⟨_, w3.heap.size :: (w1.heap.size + 1) :: gs :: ((Value.slice none 0 0).ownBlock.toList ++ (Value.slice none 0 0).ownBlock.toList), rfl, ⟨w1.heap.size + 1, gs, n, c, _, _, rfl, ?_⟩, ?_, HC3.out.alloc HC3.out.size _⟩
 ·have e1 : (List.replicate n z).length = n := by simp
  refine ⟨?_, ?_, ?_, World.ownsRow_nil _ _ _ _, World.ownsRow_nil _ _ _ _, ?_⟩
  ·have := aG.new w3 107 #[.slice (some ⟨w1.heap.size + 1, 0, none⟩) n n, .slice (some ⟨gs, 0, none⟩) n c, .slice none 0 0, .bool true, .int .i64 0, .bool false, .int .i64 0, .slice none 0 0]
   show aG _ _ _ #[.slice _ (List.replicate n z).length _, .slice _ (List.replicate n z).length _, _, _, _, _, _, _]
   rw [e1]
   exact this
  ·show World.ownsRow _ 0 _ 1 (.slice _ (List.replicate n z).length _) (List.replicate n z).length ((List.replicate n z).map Value.string)
   rw [e1]
   refine World.ownsRow.alloc ⟨by simp, .inr ⟨w1.heap.size + 1, n, _, rfl, Nat.zero_le _, HK3.out, Nat.le_refl _, by have := HNB.out; unfold maxLen; omega, by simp, by simp⟩⟩ _
  ·show World.ownsRow _ 0 _ 1 (.slice _ (List.replicate n z).length _) (List.replicate n z).length ((List.replicate n z).map Value.string)
   rw [e1]
   exact (Tg HROW.out (Nat.zero_le _)).alloc _
  ·simp [Value.ownBlock]
   omega
 ·intro b hb
  simp [Value.ownBlock] at hb
  rcases hb with rfl | rfl | rfl
  ·omega
  ·omega
  ·omega
end Go.Proofs.YtingkbeifohihaaGreatDoor
