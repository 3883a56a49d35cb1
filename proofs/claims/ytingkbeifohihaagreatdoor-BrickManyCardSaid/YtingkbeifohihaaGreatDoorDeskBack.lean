/-
  Package desk: Back. No statement is proved here.
-/
import Derived.Test.YtingkbeifohihaaGreatDoorDeskUse
import Derived.Test.YtingkbeifohihaaGreatDoorDeskSt
import Derived.Lib.AppendZeros
import Derived.Test.YtingkbeifohihaaGreatDoorHeadLib
import Derived.Test.YtingkbeifohihaaGreatDoorWalState
import Derived.BigQuiet
import Derived.Lib.Builder
namespace Go.Proofs.YtingkbeifohihaaGreatDoor
open Go.RowKit
set_option maxRecDepth 100000
set_option maxHeartbeats 4000000
def Fl (K : KD) (H : List Int) : KD := { K with H := H, F := uR H K.F }
section
variable {w w' : World} {P : List Nat} {g gw gm gr gd m : Nat} {O : List Nat} {K : KD}
theorem Sz {r : Nat} {H : List Int} (h : bL w P g gd m K) (hr : aU w r (K.S.now.length - 111) H) (hP : r ∉ P) :
  Calls Tryz.prog 122 #[.pointer (some ⟨g, 0, none⟩), .pointer (some ⟨r, 0, none⟩)] w fun e w' => e = .returned (.tuple #[]) /\ ∃ P', bL w' P' g gd m (Fl K H) /\ (∀ b ∈ P', b ∈ P \/ b = r) /\ aR P w w' := by
 obtain ⟨gw, gm, gr, O, rfl, h⟩ := h
 obtain ⟨a1, a2, a3, a4, a5, a6, a7, a8, a9, a10⟩ := h.nodup
 simp only [List.mem_cons, not_or] at hP
 obtain ⟨p1, p2, p3, p4, p5⟩ := hP
 obtain ⟨V, hV⟩ : ∃ V, V = w.alloc (.cells #[.pointer (some ⟨r, 0, none⟩)] 50) := ⟨_, rfl⟩
 have hbV : Below w.heap.size w V := by rw [hV]; exact (Below.refl _ _).alloc (Nat.le_refl _) _
 have hxV : V.cell? ⟨w.heap.size, 0, none⟩ = some (.pointer (some ⟨r, 0, none⟩)) := by rw [hV]; exact (Boxed.new w 50 _).cell
 have hsV : V.heap.size = w.heap.size + 1 := by rw [hV]; simp
 have hV1 := h.kept (fun b hb => hbV.block b (h.lt hb))
 have c2 := hV1.blk.cell 2
 have f2 := hV1.blk.frozen 2
 simp [cU] at c2
 have hgl := hV1.blk.lt
 obtain ⟨W, hW⟩ : ∃ W, W = V.setCell ⟨g, 2, none⟩ (.pointer (some ⟨r, 0, none⟩)) := ⟨_, rfl⟩
 have hkW : aR [g] V W := by rw [hW]; exact (aR.refl _ _).put (.inl (by simp)) 2 _
 have hrl := hr.lt
 have hgw : g < w.heap.size := h.blk.lt
 have hgmw : gm < w.heap.size := h.map.lt
 have hW1 : cM W g gw gm r gd m O { K with H := H } := by
  refine ⟨?_, hV1.wal.keep hkW (by simp; exact fun e => a1 e.symm), hV1.disk.far hkW (fun b hb => by simp; rintro rfl; exact a7 hb), hV1.map.keep hkW (by simp; exact fun e => a2 e.symm), (hr.below hbV).keep hkW (by simp; exact p1), ?_⟩
  ·rw [hW]
   have := hV1.blk.put 2 (.pointer (some ⟨r, 0, none⟩))
   simpa [cU] using this
  ·have hO := h.apart
   simp only [List.nodup_cons, List.mem_cons, not_or] at hO ⊢
   exact ⟨⟨a1, a2, fun e => p1 e.symm, a7⟩, ⟨a4, fun e => p2 e.symm, a8⟩, ⟨fun e => p3 e.symm, a9⟩, p5, hO.2.2.2.2⟩
 have hxW : W.cell? ⟨w.heap.size, 0, none⟩ = some (.pointer (some ⟨r, 0, none⟩)) := (World.cell?_of_block (a := ⟨w.heap.size, 0, none⟩) (hkW.block w.heap.size (by omega) (by simp; omega))).trans hxV
 have hsW : V.heap.size <= W.heap.size := hkW.size
 have HDL := Lib.hid (Tb hW1.map hxW (by omega) (by omega) hW1.room (fun e => p3 e))
 have c1 : W.cell? ⟨g, 1, none⟩ = some (.map (some gm)) := by have := hW1.blk.cell 1; simpa [cU] using this
 have HW1 := Lib.hid hW1
 have HKW : Hid (aR (g :: gw :: gm :: gr :: O) w W) := Lib.hid ((aR.of_below hbV).trans' (hkW.mono (fun b hb => .inl (by simp at hb; subst hb; simp))))
 clear h a1 a2 a3 a4 a5 a6 a7 a8 a9 a10 hV1 hkW hW1 hr hrl
 go_enter Tryz.func122, Tryz.ntmps122
 go_upto_region 1 with fail
 rw [<- hV]
 clear hV hbV
 go_upto_region 2 with fail
 rw [<- hW]
 clear hW c2 f2 hxV
 go_wp2_with fail
 refine HDL.out.mono ?_
 rintro e w3 ⟨rfl, hm3, hg3⟩
 have HM3 := Lib.hid hm3
 have HG3 := Lib.hid hg3
 clear hm3 hg3 HDL
 go_wp2_with fail
 go_end0
 refine ⟨rfl, _, (HW1.out.lay HM3.out HG3.out).at, fun b hb => ?_, HKW.out.by_in HG3.out (fun b e => by cases e; exact .inl (by simp))⟩
 simp only [List.mem_cons] at hb ⊢
 rcases hb with h | h | h | h | h
 ·exact .inl (.inl h)
 ·exact .inl (.inr (.inl h))
 ·exact .inl (.inr (.inr (.inl h)))
 ·exact .inr h
 ·exact .inl (.inr (.inr (.inr (.inr h))))
def mR (H : List Int) : List Int -> Option (List Int)
 | [] => some H
 | x :: r => if x = 0 \/ x = 1 \/ x ∉ H then none else mR (fW x H) r
theorem Ir {H : List Int} {l : List Int} {j : Nat} {x : Int} (hx : l[j]? = some x) : mR H (l.drop j) = if x = 0 \/ x = 1 \/ x ∉ H then none else mR (fW x H) (l.drop (j + 1)) := by
 have hj : j < l.length := by
  rcases Nat.lt_or_ge j l.length with h | h
  ·exact h
  ·rw [List.getElem?_eq_none h] at hx; cases hx
 have e : l.drop j = x :: l.drop (j + 1) := by
  rw [List.drop_eq_getElem_cons hj]
  rw [List.getElem?_eq_getElem hj] at hx
  rw [Option.some.inj hx]
 rw [e]
 rfl
theorem Bj (H : List Int) (x : Int) : jG H [x] = if x ∈ H then (fW x H, 1) else (H, 0) := by
 unfold jG
 simp [Gg]
def uP (K : KD) (l : List Int) : Int := match mR K.H l with | none => 15 | some _ => 0
def uQ (K : KD) (l : List Int) : KD := match mR K.H l with | none => K | some H => Fl K H
theorem Ns (A : Option Addr) (q c : Nat) (l : List Int) (h : bL w P g gd m K) (hb0 : K.bad = 0) (hm : l.length = q) (hx : dZ w w.heap.size A l) (hq : q <= 100000) :
  Calls Tryz.prog 78 #[.pointer (some ⟨g, 0, none⟩), .slice A q c] w fun e w' => e = .returned (.int .i64 (uP K l)) /\ bC P g gd m (uQ K l) w w' := by
 have HK := Lib.hid h
 have HB := Lib.hid (oO h)
 rw [hb0] at HB
 have HX := Lib.hid hx
 have HM := Lib.hid hm
 have HP : Hid (∀ b ∈ P, b < w.heap.size) := Lib.hid (fun b hb => HK.out.lt hb)
 obtain ⟨N1, hN1⟩ : ∃ N1, N1 = K.S.now.length - 111 := ⟨_, rfl⟩
 have HC : Hid (Calls Tryz.prog 42 #[.pointer (some ⟨(h.choose_spec.choose_spec.choose), 0, none⟩)] w fun e w' => e = .returned (.pointer (some ⟨w.heap.size, 0, none⟩)) /\ aU w' w.heap.size N1 K.H /\ Below w.heap.size w w') := Lib.hid (by
  obtain ⟨O, _, hd⟩ := h.choose_spec.choose_spec.choose_spec
  rw [hN1]
  exact pT hd.room)
 have c2 : w.cell? ⟨g, 2, none⟩ = some (.pointer (some ⟨(h.choose_spec.choose_spec.choose), 0, none⟩)) := by
  obtain ⟨O, _, hd⟩ := h.choose_spec.choose_spec.choose_spec
  have := hd.blk.cell 2
  simpa [cU] using this
 obtain ⟨gr, hgr⟩ : ∃ gr, gr = h.choose_spec.choose_spec.choose := ⟨_, rfl⟩
 rw [<- hgr] at HC c2
 have HUSE : Hid (∀ (w1 : World) (H : List Int), Below w.heap.size w w1 -> aU w1 w.heap.size N1 H -> Calls Tryz.prog 122 #[.pointer (some ⟨g, 0, none⟩), .pointer (some ⟨w.heap.size, 0, none⟩)] w1 fun e w' => e = .returned (.tuple #[]) /\ bC P g gd m (Fl K H) w w') := Lib.hid (by
  intro w1 H hb hr
  rw [hN1] at hr
  refine (Sz (HK.out.below hb) hr (fun hm => by have := HP.out _ hm; omega)).mono ?_
  rintro e w' ⟨rfl, P', a1, a2, a3⟩
  refine ⟨rfl, P', a1, fun b hb' => ?_, (aR.of_below hb).trans' a3⟩
  rcases a2 b hb' with h | h
  ·exact .inl h
  ·exact .inr (by omega))
 have hqI : (q : Int) <= 100000 := by omega
 obtain ⟨E, hE⟩ : ∃ E, E = uP K l := ⟨_, rfl⟩
 obtain ⟨K', hK'⟩ : ∃ K', K' = uQ K l := ⟨_, rfl⟩
 have HNO : Hid (mR K.H l = none -> E = 15 /\ K' = K) := Lib.hid (fun e => by rw [hE, hK']; unfold uP uQ; rw [e]; exact ⟨rfl, rfl⟩)
 have HYES : Hid (∀ H, mR K.H l = some H -> E = 0 /\ K' = Fl K H) := Lib.hid (fun H e => by rw [hE, hK']; unfold uP uQ; rw [e]; exact ⟨rfl, rfl⟩)
 rw [<- hE, <- hK']
 clear h hb0 hm hx hgr hE hK' hN1
 go_enter Tryz.func78, Tryz.ntmps78
 go_wp2_with (go_at_call 80; refine HB.out.mono ?_; rintro e w1 ⟨rfl, hw1⟩; have hw1' := hw1.symm; clear hw1; subst hw1')
 refine HC.out.mono ?_
 rintro e w2 ⟨rfl, hr2, hb2⟩
 have HR2 := Lib.hid hr2
 have HB2 := Lib.hid hb2
 clear hr2 hb2 HB HC c2
 go_wp2_with fail
 go_loopw [21] (fun i wr => ∃ (j : Nat) (H : List Int), j <= q /\ i = .int .i64 j /\ aU wr w.heap.size N1 H /\ Below w.heap.size w wr /\ mR K.H l = mR H (l.drop j)) (fun i _ => q - (intOf i).toNat)
 case atStart => exact ⟨0, K.H, Nat.zero_le _, rfl, HR2.out, HB2.out, rfl⟩
 case round =>
  obtain ⟨j, H, hj, rfl, hr, hb, hd⟩ := hrel
  have HR := Lib.hid hr
  have HBR := Lib.hid hb
  have HDR := Lib.hid hd
  clear hr hb hd
  by_cases hlt : j < q
  ·have hjI : (j : Int) < (q : Int) := by omega
   have HLT := Lib.hid hlt
   have hjl : j < l.length := by rw [HM.out]; exact hlt
   obtain ⟨b, off, rfl, hbB, hcel⟩ := HX.out (by omega)
   obtain ⟨x, hx⟩ : ∃ x, l[j]? = some x := ⟨_, List.getElem?_eq_getElem hjl⟩
   have hcx : wr.cell? ⟨b, off + j, none⟩ = some (.int .i64 x) := (HBR.out.cell (p := ⟨b, off + j, none⟩) hbB).trans (hcel j x hx)
   have HST := Lib.hid (Ir (H := H) hx)
   clear hx hcel
   by_cases h0 : x = 0
   ·have HN := Lib.hid (HNO.out (by rw [HDR.out, HST.out, if_pos (.inl h0)]))
    subst h0
    go_wp2_with fail
    go_ret
    exact ⟨by rw [HN.out.1]; rfl, by rw [HN.out.2]; exact bC.of_below HK.out HBR.out⟩
   by_cases h1 : x = 1
   ·have HN := Lib.hid (HNO.out (by rw [HDR.out, HST.out, if_pos (.inr (.inl h1))]))
    subst h1
    go_wp2_with fail
    go_ret
    exact ⟨by rw [HN.out.1]; rfl, by rw [HN.out.2]; exact bC.of_below HK.out HBR.out⟩
   have b0 : (x == 0) = false := by simpa using h0
   have b1 : (x == 1) = false := by simpa using h1
   have hgt : w.heap.size < wr.heap.size := HR.out.lt
   have HGT := Lib.hid hgt
   have HGV : Hid (∀ W, W = wr.alloc (.cells #[.int .i64 x] 3) -> Calls Tryz.prog 121 #[.pointer (some ⟨w.heap.size, 0, none⟩), .slice (some ⟨wr.heap.size, 0, none⟩) 1 1] W fun e w' => e = .returned (.int .i64 ((jG H [x]).2 : Int)) /\ aU w' w.heap.size N1 (jG H [x]).1 /\ Below w.heap.size w w') := Lib.hid (by
    rintro W rfl
    have hbW : Below wr.heap.size wr (wr.alloc (.cells #[.int .i64 x] 3)) := (Below.refl _ _).alloc (Nat.le_refl _) _
    have hxi : dZ (wr.alloc (.cells #[.int .i64 x] 3)) (wr.alloc (.cells #[.int .i64 x] 3)).heap.size (some ⟨wr.heap.size, 0, none⟩) [x] := fun _ => ⟨wr.heap.size, 0, rfl, by simp, fun j y hy => by
     match j, hy with
     | 0, hy => simp at hy; subst hy; simp⟩
    refine (Op (some ⟨wr.heap.size, 0, none⟩) 1 1 [x] (HR.out.below hbW) rfl hxi (fun a ha => by injection ha with ha; rw [<- ha]; show wr.heap.size ≠ w.heap.size; have := HGT.out; omega) (by omega)).mono ?_
    rintro e w' ⟨rfl, ht⟩
    have hB : Below w.heap.size w (wr.alloc (.cells #[.int .i64 x] 3)) := HBR.out.trans (hbW.mono HBR.out.size)
    exact ⟨rfl, ht.room, ht.under hB (Nat.le_refl _) hB.size⟩)
   by_cases hin : x ∈ H
   ·have eg : jG H [x] = (fW x H, 1) := by rw [Bj, if_pos hin]
    rw [eg] at HGV
    have HD2 : Hid (mR K.H l = mR (fW x H) (l.drop (j + 1))) := Lib.hid (by rw [HDR.out, HST.out, if_neg (by rintro (h | h | h); exact h0 h; exact h1 h; exact h hin)])
    clear eg hin hgt
    go_wp2_with fail
    refine (HGV.out _ rfl).mono ?_
    rintro e w4 ⟨rfl, hr4, hb4⟩
    have HR4 := Lib.hid hr4
    have HB4 := Lib.hid hb4
    clear hr4 hb4 HGV
    go_wp2_with fail
    refine ⟨⟨j + 1, fW x H, HLT.out, by go_num, HR4.out, HB4.out, HD2.out⟩, ?_⟩
    have := HLT.out
    simp [intOf]
    omega
   ·have eg : jG H [x] = (H, 0) := by rw [Bj, if_neg hin]
    rw [eg] at HGV
    have HN := Lib.hid (HNO.out (by rw [HDR.out, HST.out, if_pos (.inr (.inr hin))]))
    clear eg hin hgt
    go_wp2_with fail
    refine (HGV.out _ rfl).mono ?_
    rintro e w4 ⟨rfl, hr4, hb4⟩
    have HB4 := Lib.hid hb4
    clear hr4 hb4 HGV
    go_wp2_with fail
    go_ret
    exact ⟨by rw [HN.out.1]; rfl, by rw [HN.out.2]; exact bC.of_below HK.out HB4.out⟩
  ·obtain rfl : j = q := by omega
   have HY := Lib.hid (HYES.out H (by rw [HDR.out, List.drop_of_length_le (by rw [HM.out]; exact Nat.le_refl _)]; rfl))
   have HU := Lib.hid (HUSE.out wr H HBR.out HR.out)
   go_wp2_with fail
   refine HU.out.mono ?_
   rintro e w4 ⟨rfl, hT⟩
   have HT := Lib.hid hT
   clear hT HU
   go_wp2_with fail
   go_ret
   exact ⟨by rw [HY.out.1]; rfl, by rw [HY.out.2]; exact HT.out⟩
end
open Go.RowKit Go.Lib
theorem Sy {w : World} {B : Nat} {v : Value} {n : Nat} {l : List Int} (h : w.ownsRow B 3 1 v n (l.map (Value.int .i64))) : ∃ A c, v = .slice A n c /\ l.length = n /\ dZ w w.heap.size A l := by
 obtain ⟨hl, hv | ⟨g, cap, cur, hv, _, hc, hn, _, hs, ht⟩⟩ := h
 ·obtain ⟨rfl, rfl⟩ := hv
  have : l = [] := by
   rw [List.length_map] at hl
   exact List.eq_nil_of_length_eq_zero (by omega)
  subst this
  exact ⟨none, 0, rfl, rfl, dZ.nil _ _ _⟩
 ·rw [List.length_map, Nat.mul_one] at hl
  refine ⟨_, cap, hv, hl, fun _ => ⟨g, 0, rfl, ?_, fun j x hx => ?_⟩⟩
  ·rcases Nat.lt_or_ge g w.heap.size with h | h
   ·exact h
   ·rw [Array.getElem?_eq_none h] at hc; cases hc
  ·have := (World.ownsRow.cells (w := w) (base := B) (e := 3) (size := 1) (v := v) (n := n) (xs := l.map (Value.int .i64)) ⟨by rw [List.length_map]; omega, .inr ⟨g, cap, cur, hv, by assumption, hc, hn, by assumption, hs, ht⟩⟩ (g := g) (by rw [hv]; rfl)) j (.int .i64 x) (by rw [List.getElem?_map, hx]; rfl)
   rw [Go.WideShapes.add_plain, Nat.zero_add] at this
   rw [Nat.zero_add]
   exact this
set_option maxRecDepth 100000
set_option maxHeartbeats 4000000
def AI (V : List (Option Value)) (ci cj B m n : Nat) (F : Int -> ByteArray) (H : List Int) (i : Nat) (v : Value) (w : World) : Prop :=
 (∀ u, V[i]? = some (some u) -> v = u) /\ (i = ci -> ∃ b, v = .map (some b) /\ B <= b /\ eX w b m F) /\ (i = cj -> ∃ b, v = .pointer (some ⟨b, 0, none⟩) /\ B <= b /\ aU w b n H)
theorem AI.below {V : List (Option Value)} {ci cj B m n : Nat} {F : Int -> ByteArray} {H : List Int} {i : Nat} {v : Value} {w w' : World} (h : AI V ci cj B m n F H i v w) (hb : Below w.heap.size w w') : AI V ci cj B m n F H i v w' := by
 obtain ⟨h1, h2, h3⟩ := h
 refine ⟨h1, fun e => ?_, fun e => ?_⟩
 ·obtain ⟨b, e1, e2, e3⟩ := h2 e
  exact ⟨b, e1, e2, e3.below hb⟩
 ·obtain ⟨b, e1, e2, e3⟩ := h3 e
  exact ⟨b, e1, e2, e3.below hb⟩
def Qw (V : List (Option Value)) (ci cj m n : Nat) (F : Int -> ByteArray) (H : List Int) (W : World) (L : Nat -> Bool) (f : Nat -> Value) (w : World) : Prop :=
 Below W.heap.size W w /\ ∀ i, L i = true -> AI V ci cj W.heap.size m n F H i (f i) w
section
variable {V : List (Option Value)} {ci cj m n : Nat} {F : Int -> ByteArray} {H : List Int} {W w w' : World} {L : Nat -> Bool} {f : Nat -> Value} {i : Nat} {v : Value}
theorem Qw.put (h : Qw V ci cj m n F H W L f w) (hb : Below w.heap.size w w') (hp : AI V ci cj W.heap.size m n F H i v w') : Qw V ci cj m n F H W (fun j => if i = j then true else L j) (fun j => if i = j then v else f j) w' := by
 refine ⟨h.1.trans (hb.mono h.1.size), fun j hj => ?_⟩
 by_cases e : i = j
 ·subst e
  simpa using hp
 ·simp only [if_neg e] at hj ⊢
  exact (h.2 j hj).below hb
theorem Qw.same (h : Qw V ci cj m n F H W L f w) (hv : V[i]? = some (some v)) (h1 : i ≠ ci) (h2 : i ≠ cj) : Qw V ci cj m n F H W (fun j => if i = j then true else L j) (fun j => if i = j then v else f j) w :=
 h.put (Below.refl _ _) ⟨fun u hu => by rw [hv] at hu; injection hu with hu; injection hu, fun e => absurd e h1, fun e => absurd e h2⟩
theorem xU {b : Nat} (h : eX w b m F) : Calls Tryz.prog 79 #[.map (some b)] w fun e w' => e = .returned (.map (some w.heap.size)) /\ eX w' w.heap.size m F /\ Below w.heap.size w w' := by
 obtain ⟨D, h1, h2⟩ := h
 refine (AnyW.maps_Clone_owns Ya 3 iB b m D w h1).mono ?_
 rintro e w' ⟨rfl, a, _, b⟩
 exact ⟨rfl, ⟨D, a, h2⟩, b⟩
end
def Cy (w : World) (B st g m n : Nat) (sy : Int) (F : Int -> ByteArray) (H : List Int) : Prop :=
 ∃ mb rb, B <= st /\ B <= mb /\ B <= rb /\ aG w st 144 #[.pointer (some ⟨g, 0, none⟩), .int .i64 sy, .map (some mb), .pointer (some ⟨rb, 0, none⟩)] /\ eX w mb m F /\ aU w rb n H
theorem Sx {W : World} {b : Nat} {p : Option Addr} (hb : aG W b 100 #[.pointer p]) :
  (loadVar 100 ⟨b, 0, none⟩).run Tryz.prog W = .ok (.agg #[.pointer p]) W :=
 aT (off := 0) hb (fun j v h => by rw [Nat.zero_add]; exact h) (fun w => by kernel_rfl) (fun w => by kernel_rfl)
section
variable {w w' : World} {P : List Nat} {g gw gm gr gd m : Nat} {O : List Nat} {K : KD}
theorem Cz (h : bL w P g gd m K) :
  Calls Tryz.prog 45 #[.pointer (some ⟨g, 0, none⟩)] w fun e w' => ∃ st, e = .returned (.agg #[.pointer (some ⟨st, 0, none⟩)]) /\ Cy w' w.heap.size st g m (K.S.now.length - 111) K.syncs K.F K.H /\ Below w.heap.size w w' := by
 obtain ⟨gw, gm, gr, O, rfl, h⟩ := h
 obtain ⟨N1, hN1⟩ : ∃ N1, N1 = K.S.now.length - 111 := ⟨_, rfl⟩
 obtain ⟨W, hW⟩ : ∃ W, W = w.alloc (.cells #[.pointer none] 100) := ⟨_, rfl⟩
 have hbW : Below w.heap.size w W := by rw [hW]; exact (Below.refl _ _).alloc (Nat.le_refl _) _
 have hsW : W.heap.size = w.heap.size + 1 := by rw [hW]; simp
 have hBW : aG W w.heap.size 100 #[.pointer none] := by rw [hW]; exact aG.new w 100 _
 have hV := h.kept (fun b hb => hbW.block b (h.lt hb))
 have HGB : Hid (g < W.heap.size) := Lib.hid hV.blk.lt
 obtain ⟨sy, hsy⟩ : ∃ sy, sy = K.syncs := ⟨_, rfl⟩
 have c1 := hV.blk.cell 1
 have c2 := hV.blk.cell 2
 have c4 := hV.blk.cell 4
 simp [cU] at c1 c2 c4
 rw [<- hsy] at c4
 have HC1 := Lib.hid c1
 have HC2 := Lib.hid c2
 have HC4 := Lib.hid c4
 have HCL : Hid (∀ w', Below W.heap.size W w' -> Calls Tryz.prog 79 #[.map (some gm)] w' fun e w'' => e = .returned (.map (some w'.heap.size)) /\ eX w'' w'.heap.size m K.F /\ Below w'.heap.size w' w'') := Lib.hid (fun w' hb => xU (hV.map.below hb))
 have HCO : Hid (∀ w', Below W.heap.size W w' -> Calls Tryz.prog 42 #[.pointer (some ⟨gr, 0, none⟩)] w' fun e w'' => e = .returned (.pointer (some ⟨w'.heap.size, 0, none⟩)) /\ aU w'' w'.heap.size N1 K.H /\ Below w'.heap.size w' w'') := Lib.hid (fun w' hb => by rw [hN1]; exact pT (hV.room.below hb))
 have HBW := Lib.hid hBW
 have HbW := Lib.hid hbW
 have HSW := Lib.hid hsW
 rw [<- hN1, <- hsy]
 clear hN1 hV h c1 c2 c4 hBW hbW hsW hsy
 go_enter Tryz.func45, Tryz.ntmps45
 go_upto_region 3 with fail
 rw [<- hW]
 refine jP 6 15 20 4 (Qw [some (.pointer (some ⟨g, 0, none⟩)), some (.pointer (some ⟨g, 0, none⟩)), some (.pointer (some ⟨g, 0, none⟩)), some (.pointer (some ⟨g, 4, none⟩)), some (.int .i64 sy), some (.pointer (some ⟨g, 0, none⟩)), some (.pointer (some ⟨g, 0, none⟩)), some (.pointer (some ⟨g, 1, none⟩)), some (.map (some gm)), none, some (.pointer (some ⟨g, 0, none⟩)), some (.pointer (some ⟨g, 0, none⟩)), some (.pointer (some ⟨g, 2, none⟩)), some (.pointer (some ⟨gr, 0, none⟩)), none] 9 14 m N1 K.F K.H W) (by kernel_rfl) (by kernel_rfl) rfl (by omega) (by kernel_rfl) rfl (by simp) ?h0 ?hops ?hrest
 case h0 => exact ⟨(Below.refl _ _).drew, fun _ h => by cases h⟩
 case hops =>
  intro o ho L f y w' hF hLo hJ hw hy
  have HJ := Lib.hid hJ
  clear hJ
  rcases (show o = 0 \/ o = 1 \/ o = 2 \/ o = 3 \/ o = 4 \/ o = 5 \/ o = 6 \/ o = 7 \/ o = 8 \/ o = 9 \/ o = 10 \/ o = 11 \/ o = 12 \/ o = 13 \/ o = 14 by omega) with rfl | rfl | rfl | rfl | rfl | rfl | rfl | rfl | rfl | rfl | rfl | rfl | rfl | rfl | rfl
  ·have e0 : y.tmps[0]?.getD undef = .pointer (some ⟨g, 0, none⟩) := by rw [hF.2.2 0 (by omega)]; rfl
   clear hw hy hF
   refine aA (v := .pointer (some ⟨g, 0, none⟩)) (w' := w') rfl rfl ?_ ⟨_, rfl, HJ.out.same rfl (by decide) (by decide)⟩
   go_simp
  ·have e0 : y.tmps[0]?.getD undef = .pointer (some ⟨g, 0, none⟩) := by rw [hF.2.2 0 (by omega)]; rfl
   clear hw hy hF
   refine aA (v := .pointer (some ⟨g, 0, none⟩)) (w' := w') rfl rfl ?_ ⟨_, rfl, HJ.out.same rfl (by decide) (by decide)⟩
   go_simp
  ·have e7 : y.tmps[7]?.getD undef = .pointer (some ⟨g, 0, none⟩) := (hy 1 (by omega) (hw 1 (of_decide_eq_true (by kernel_rfl)))).trans ((HJ.out.2 1 (hw 1 (of_decide_eq_true (by kernel_rfl)))).1 _ rfl)
   clear hw hy hF
   refine aA (v := .pointer (some ⟨g, 0, none⟩)) (w' := w') rfl rfl ?_ ⟨_, rfl, HJ.out.same rfl (by decide) (by decide)⟩
   go_simp
  ·have e8 : y.tmps[8]?.getD undef = .pointer (some ⟨g, 0, none⟩) := (hy 2 (by omega) (hw 2 (of_decide_eq_true (by kernel_rfl)))).trans ((HJ.out.2 2 (hw 2 (of_decide_eq_true (by kernel_rfl)))).1 _ rfl)
   clear hw hy hF
   refine aA (v := .pointer (some ⟨g, 4, none⟩)) (w' := w') rfl rfl ?_ ⟨_, rfl, HJ.out.same rfl (by decide) (by decide)⟩
   go_simp
  ·have e9 : y.tmps[9]?.getD undef = .pointer (some ⟨g, 4, none⟩) := (hy 3 (by omega) (hw 3 (of_decide_eq_true (by kernel_rfl)))).trans ((HJ.out.2 3 (hw 3 (of_decide_eq_true (by kernel_rfl)))).1 _ rfl)
   have c4 := (HJ.out.1.cell (p := ⟨g, 4, none⟩) HGB.out).trans HC4.out
   clear hw hy hF
   refine aA (v := .int .i64 sy) (w' := w') rfl rfl ?_ ⟨_, rfl, HJ.out.same rfl (by decide) (by decide)⟩
   go_simp
  ·have e0 : y.tmps[0]?.getD undef = .pointer (some ⟨g, 0, none⟩) := by rw [hF.2.2 0 (by omega)]; rfl
   clear hw hy hF
   refine aA (v := .pointer (some ⟨g, 0, none⟩)) (w' := w') rfl rfl ?_ ⟨_, rfl, HJ.out.same rfl (by decide) (by decide)⟩
   go_simp
  ·have e11 : y.tmps[11]?.getD undef = .pointer (some ⟨g, 0, none⟩) := (hy 5 (by omega) (hw 5 (of_decide_eq_true (by kernel_rfl)))).trans ((HJ.out.2 5 (hw 5 (of_decide_eq_true (by kernel_rfl)))).1 _ rfl)
   clear hw hy hF
   refine aA (v := .pointer (some ⟨g, 0, none⟩)) (w' := w') rfl rfl ?_ ⟨_, rfl, HJ.out.same rfl (by decide) (by decide)⟩
   go_simp
  ·have e12 : y.tmps[12]?.getD undef = .pointer (some ⟨g, 0, none⟩) := (hy 6 (by omega) (hw 6 (of_decide_eq_true (by kernel_rfl)))).trans ((HJ.out.2 6 (hw 6 (of_decide_eq_true (by kernel_rfl)))).1 _ rfl)
   clear hw hy hF
   refine aA (v := .pointer (some ⟨g, 1, none⟩)) (w' := w') rfl rfl ?_ ⟨_, rfl, HJ.out.same rfl (by decide) (by decide)⟩
   go_simp
  ·have e13 : y.tmps[13]?.getD undef = .pointer (some ⟨g, 1, none⟩) := (hy 7 (by omega) (hw 7 (of_decide_eq_true (by kernel_rfl)))).trans ((HJ.out.2 7 (hw 7 (of_decide_eq_true (by kernel_rfl)))).1 _ rfl)
   have c1 := (HJ.out.1.cell (p := ⟨g, 1, none⟩) HGB.out).trans HC1.out
   clear hw hy hF
   refine aA (v := .map (some gm)) (w' := w') rfl rfl ?_ ⟨_, rfl, HJ.out.same rfl (by decide) (by decide)⟩
   go_simp
  ·have e14 : y.tmps[14]?.getD undef = .map (some gm) := (hy 8 (by omega) (hw 8 (of_decide_eq_true (by kernel_rfl)))).trans ((HJ.out.2 8 (hw 8 (of_decide_eq_true (by kernel_rfl)))).1 _ rfl)
   clear hw hy hF
   refine aP (f := 79) (args := #[.map (some gm)]) rfl rfl (by go_simp) ((HCL.out w' HJ.out.1).mono ?_)
   rintro e w'' ⟨rfl, hm, hb⟩
   exact ⟨_, rfl, _, rfl, HJ.out.put hb ⟨(fun _ h => by cases h), fun _ => ⟨_, rfl, HJ.out.1.size, hm⟩, fun h => by cases h⟩⟩
  ·have e0 : y.tmps[0]?.getD undef = .pointer (some ⟨g, 0, none⟩) := by rw [hF.2.2 0 (by omega)]; rfl
   clear hw hy hF
   refine aA (v := .pointer (some ⟨g, 0, none⟩)) (w' := w') rfl rfl ?_ ⟨_, rfl, HJ.out.same rfl (by decide) (by decide)⟩
   go_simp
  ·have e16 : y.tmps[16]?.getD undef = .pointer (some ⟨g, 0, none⟩) := (hy 10 (by omega) (hw 10 (of_decide_eq_true (by kernel_rfl)))).trans ((HJ.out.2 10 (hw 10 (of_decide_eq_true (by kernel_rfl)))).1 _ rfl)
   clear hw hy hF
   refine aA (v := .pointer (some ⟨g, 0, none⟩)) (w' := w') rfl rfl ?_ ⟨_, rfl, HJ.out.same rfl (by decide) (by decide)⟩
   go_simp
  ·have e17 : y.tmps[17]?.getD undef = .pointer (some ⟨g, 0, none⟩) := (hy 11 (by omega) (hw 11 (of_decide_eq_true (by kernel_rfl)))).trans ((HJ.out.2 11 (hw 11 (of_decide_eq_true (by kernel_rfl)))).1 _ rfl)
   clear hw hy hF
   refine aA (v := .pointer (some ⟨g, 2, none⟩)) (w' := w') rfl rfl ?_ ⟨_, rfl, HJ.out.same rfl (by decide) (by decide)⟩
   go_simp
  ·have e18 : y.tmps[18]?.getD undef = .pointer (some ⟨g, 2, none⟩) := (hy 12 (by omega) (hw 12 (of_decide_eq_true (by kernel_rfl)))).trans ((HJ.out.2 12 (hw 12 (of_decide_eq_true (by kernel_rfl)))).1 _ rfl)
   have c2 := (HJ.out.1.cell (p := ⟨g, 2, none⟩) HGB.out).trans HC2.out
   clear hw hy hF
   refine aA (v := .pointer (some ⟨gr, 0, none⟩)) (w' := w') rfl rfl ?_ ⟨_, rfl, HJ.out.same rfl (by decide) (by decide)⟩
   go_simp
  ·have e19 : y.tmps[19]?.getD undef = .pointer (some ⟨gr, 0, none⟩) := (hy 13 (by omega) (hw 13 (of_decide_eq_true (by kernel_rfl)))).trans ((HJ.out.2 13 (hw 13 (of_decide_eq_true (by kernel_rfl)))).1 _ rfl)
   clear hw hy hF
   refine aP (f := 42) (args := #[.pointer (some ⟨gr, 0, none⟩)]) rfl rfl (by go_simp) ((HCO.out w' HJ.out.1).mono ?_)
   rintro e w'' ⟨rfl, hm, hb⟩
   exact ⟨_, rfl, _, rfl, HJ.out.put hb ⟨(fun _ h => by cases h), (fun h => by cases h), fun _ => ⟨_, rfl, HJ.out.1.size, hm⟩⟩⟩
 case hrest =>
  intro L f w' hL hJ
  obtain ⟨hJ1, hJ2⟩ := hJ
  have f0 : f 0 = .pointer (some ⟨g, 0, none⟩) := (hJ2 0 (hL 0 (by omega))).1 _ rfl
  have f4 : f 4 = .int .i64 sy := (hJ2 4 (hL 4 (by omega))).1 _ rfl
  obtain ⟨mb, f9, hmb, hmw⟩ := (hJ2 9 (hL 9 (by omega))).2.1 rfl
  obtain ⟨rb, f14, hrb, hrw⟩ := (hJ2 14 (hL 14 (by omega))).2.2 rfl
  have HM := Lib.hid hmw
  have HR := Lib.hid hrw
  have HJ1 := Lib.hid hJ1
  have HMB := Lib.hid hmb
  have HRB := Lib.hid hrb
  have hB0 : aG w' w.heap.size 100 #[.pointer none] := HBW.out.below hJ1 (by have := HSW.out; omega)
  have HB0 := Lib.hid hB0
  have c0 := hB0.cell 0
  have q0 := hB0.frozen 0
  have hlt := hB0.lt
  simp at c0
  clear hL hJ1 hJ2 hmw hrw hmb hrb hB0
  rw [show List.range' 15 4 = [15, 16, 17, 18] from rfl]
  simp only [iC, List.range, List.range.loop, List.foldl, Nat.reduceAdd, List.setIfInBounds_toArray, List.set_cons_succ, List.set_cons_zero, f0, f4, f9, f14]
  clear f0 f4 f9 f14
  rw [wpOps_cons]
  refine aA (v := .agg #[.pointer (some ⟨g, 0, none⟩), .int .i64 sy, .map (some mb), .pointer (some ⟨rb, 0, none⟩)]) (w' := w') rfl rfl (by go_simp) ?_
  change wpOps _ _ _ [16, 17, 18] (Act.put _ (some 21) _) _
  simp only [Act.put, List.setIfInBounds_toArray, List.set_cons_succ, List.set_cons_zero]
  rw [wpOps_cons]
  refine aA (v := .pointer (some ⟨w'.heap.size, 0, none⟩)) (w' := w'.alloc (.cells #[.pointer (some ⟨g, 0, none⟩), .int .i64 sy, .map (some mb), .pointer (some ⟨rb, 0, none⟩)] 144)) rfl rfl (by go_simp) ?_
  change wpOps _ _ _ [17, 18] (Act.put _ (some 22) _) _
  simp only [Act.put, List.setIfInBounds_toArray, List.set_cons_succ, List.set_cons_zero]
  rw [wpOps_cons]
  refine aA (v := .agg #[.pointer (some ⟨w'.heap.size, 0, none⟩)]) (w' := w'.alloc (.cells #[.pointer (some ⟨g, 0, none⟩), .int .i64 sy, .map (some mb), .pointer (some ⟨rb, 0, none⟩)] 144)) rfl rfl (by go_simp) ?_
  change wpOps _ _ _ [18] (Act.put _ (some 23) _) _
  simp only [Act.put, List.setIfInBounds_toArray, List.set_cons_succ, List.set_cons_zero]
  rw [wpOps_cons]
  refine eC (w' := (w'.alloc (.cells #[.pointer (some ⟨g, 0, none⟩), .int .i64 sy, .map (some mb), .pointer (some ⟨rb, 0, none⟩)] 144)).setCell ⟨w.heap.size, 0, none⟩ (.pointer (some ⟨w'.heap.size, 0, none⟩))) rfl rfl (by go_simp) ?_
  simp only [wpOps, Act.put, List.setIfInBounds_toArray]
  clear c0 q0
  have HLT := Lib.hid hlt
  obtain ⟨W2, hW2⟩ : ∃ W2, W2 = w'.alloc (.cells #[.pointer (some ⟨g, 0, none⟩), .int .i64 sy, .map (some mb), .pointer (some ⟨rb, 0, none⟩)] 144) := ⟨_, rfl⟩
  rw [<- hW2]
  have hb2 : Below w'.heap.size w' W2 := by rw [hW2]; exact (Below.refl _ _).alloc (Nat.le_refl _) _
  have hst : aG W2 w'.heap.size 144 #[.pointer (some ⟨g, 0, none⟩), .int .i64 sy, .map (some mb), .pointer (some ⟨rb, 0, none⟩)] := by rw [hW2]; exact aG.new w' _ _
  obtain ⟨W3, hW3⟩ : ∃ W3, W3 = W2.setCell ⟨w.heap.size, 0, none⟩ (.pointer (some ⟨w'.heap.size, 0, none⟩)) := ⟨_, rfl⟩
  rw [<- hW3]
  have hv3 : aG W3 w.heap.size 100 #[.pointer (some ⟨w'.heap.size, 0, none⟩)] := by
   rw [hW3]
   exact (HB0.out.below hb2 hlt).put 0 _
  have hM3 : Cy W3 w.heap.size w'.heap.size g m N1 sy K.F K.H := by
   have h1 := HJ1.out.size
   have h2 := HSW.out
   have h3 := HMB.out
   have h4 := HRB.out
   refine ⟨mb, rb, by omega, by omega, by omega, ?_, ?_, ?_⟩
   ·rw [hW3]; exact aG.far hst (fun e => by have e : w'.heap.size = w.heap.size := e; omega) _
   ·refine (HM.out.below hb2).kept ?_
    rw [hW3]
    exact Below.heap_setCell _ _ _ _ (fun e => by have e : mb = w.heap.size := e; omega)
   ·have := HR.out.below hb2
    exact ⟨by rw [hW3]; exact aG.far this.blk (fun e => by have e : rb = w.heap.size := e; omega) _, this.ok, this.size⟩
  have hb3 : Below w.heap.size w W3 := by
   rw [hW3]
   exact ((HbW.out.trans (HJ1.out.mono HbW.out.size)).trans (hb2.mono (by omega))).setCell (Nat.le_refl _) _
  have HV3 := Lib.hid hv3
  have HM3 := Lib.hid hM3
  have HB3 := Lib.hid hb3
  clear hW hW2 hW3 hv3 hM3 hb3 hst hb2 hlt
  go_wp2_with fail
  refine dV rfl rfl (Sx HV3.out) rfl ?_
  exact ⟨_, rfl, HM3.out, HB3.out⟩
end
set_option maxRecDepth 100000
set_option maxHeartbeats 4000000
def Sv : List (Option Nat) := [some 32, some 33, some 34, some 35, some 36, some 37, some 38, some 39, some 40, some 41, some 42, some 43, some 44, some 45, some 46, some 47, none, some 48, some 49, none]
def Zi (i : Nat) : Option Nat := (Sv[i]?).getD none
theorem sB {s : Nat} (h : (Sv.all fun x => x != some s) = true) {k : Nat} : ∀ i, i < k -> Zi i ≠ some s := by
 intro i _ e
 unfold Zi at e
 cases hx : Sv[i]? with
 | none => rw [hx] at e; cases e
 | some y =>
   rw [hx] at e
   have := List.all_eq_true.1 h y (List.mem_of_getElem? hx)
   simp at e
   rw [e] at this
   simp at this
def Yo (g : Nat) (L : Nat -> Bool) (f : Nat -> Value) (v : World) : World :=
 if L 19 = true then (v.setCell ⟨g, 1, none⟩ (f 7)).setCell ⟨g, 2, none⟩ (f 13) else if L 16 = true then v.setCell ⟨g, 1, none⟩ (f 7) else v
def Hi (V : List (Option Value)) (g m n : Nat) (F : Int -> ByteArray) (H : List Int) (W : World) (L : Nat -> Bool) (f : Nat -> Value) (w : World) : Prop :=
 ∃ v, Qw V 7 13 m n F H W L f v /\ w = Yo g L f v
section
variable {V : List (Option Value)} {g m n : Nat} {F : Int -> ByteArray} {H : List Int} {W w w' : World} {L : Nat -> Bool} {f : Nat -> Value} {i : Nat} {u : Value}
theorem Hi.plain (h : Hi V g m n F H W L f w) (hv : V[i]? = some (some u)) (h1 : i ≠ 7) (h2 : i ≠ 13) (h3 : i ≠ 16) (h4 : i ≠ 19) : Hi V g m n F H W (fun j => if i = j then true else L j) (fun j => if i = j then u else f j) w := by
 obtain ⟨v, hj, e⟩ := h
 refine ⟨v, hj.same hv h1 h2, ?_⟩
 rw [e]
 unfold Yo
 simp only [if_neg h1, if_neg h2, if_neg h3, if_neg h4]
theorem Hi.call (h : Qw V 7 13 m n F H W L f w) (h16 : L 16 = false) (h19 : L 19 = false) : Hi V g m n F H W L f w := ⟨w, h, by unfold Yo; rw [h16, h19]; rfl⟩
theorem Qw.none (h : Qw V 7 13 m n F H W L f w) (hv : V[i]? = some none) (h1 : i ≠ 7) (h2 : i ≠ 13) : Qw V 7 13 m n F H W (fun j => if i = j then true else L j) (fun j => if i = j then u else f j) w :=
 h.put (Below.refl _ _) ⟨(fun u hu => by rw [hv] at hu; cases hu), fun e => absurd e h1, fun e => absurd e h2⟩
theorem Hi.st1 (h : Hi V g m n F H W L f w) (hv : V[16]? = some none) (h16 : L 16 = false) (h19 : L 19 = false) : Hi V g m n F H W (fun j => if 16 = j then true else L j) (fun j => if 16 = j then u else f j) (w.setCell ⟨g, 1, none⟩ (f 7)) := by
 obtain ⟨v, hj, e⟩ := h
 refine ⟨v, hj.none hv (by decide) (by decide), ?_⟩
 rw [e]
 unfold Yo
 simp [h16, h19]
theorem Hi.st2 (h : Hi V g m n F H W L f w) (hv : V[19]? = some none) (h16 : L 16 = true) (h19 : L 19 = false) : Hi V g m n F H W (fun j => if 19 = j then true else L j) (fun j => if 19 = j then u else f j) (w.setCell ⟨g, 2, none⟩ (f 13)) := by
 obtain ⟨v, hj, e⟩ := h
 refine ⟨v, hj.none hv (by decide) (by decide), ?_⟩
 rw [e]
 unfold Yo
 simp [h16, h19]
end
theorem Sw (g : Nat) (w : World) : (binOp BinOp.neq 25 (.pointer (some ⟨g, 0, none⟩)) (.pointer (some ⟨g, 0, none⟩))).run Tryz.prog w = .ok (.bool false) w := by
 obtain ⟨j, hj⟩ : ∃ j, Tryz.prog.info? 66 = some j := ⟨_, rfl⟩
 exact Lib.run_neq_ptr_same w ⟨g, 0, none⟩ Tryz.underlying25 hj
theorem Nq {B : Nat} (w : World) (n : Nat) : Below B w (w.drewN n) := ⟨rfl, rfl, rfl, Nat.le_refl _, fun _ _ => rfl⟩
theorem zW {w : World} {a b n m : Nat} {H : List Int} {F : Int -> ByteArray} (h1 : eX w a m F) (h2 : aU w b n H) : a ≠ b := by
 rintro rfl
 obtain ⟨D, ⟨es, clock, e, _⟩, _⟩ := h1
 have := h2.blk
 unfold aG at this
 rw [e] at this
 cases this
def nW (K : KD) (F : Int -> ByteArray) (H : List Int) : KD := { K with F := F, H := H }
section
variable {w w' : World} {P : List Nat} {g gw gm gr gd m : Nat} {O : List Nat} {K : KD}
theorem Nr {st B : Nat} {sy : Int} {F : Int -> ByteArray} {H : List Int} (h : bL w P g gd m K) (hk : Cy w B st g m (K.S.now.length - 111) sy F H) (hsy : sy = K.syncs) :
  Calls Tryz.prog 49 #[.pointer (some ⟨g, 0, none⟩), .agg #[.pointer (some ⟨st, 0, none⟩)]] w fun e w' => e = .returned (.tuple #[]) /\ bC P g gd m (nW K F H) w w' := by
 obtain ⟨mb, rb, -, -, -, hst, hmb, hrb⟩ := hk
 obtain ⟨gw, gm, gr, O, rfl, h⟩ := h
 obtain ⟨N1, hN1⟩ : ∃ N1, N1 = K.S.now.length - 111 := ⟨_, rfl⟩
 obtain ⟨gb, hgb⟩ : ∃ gb, gb = w.heap.size := ⟨_, rfl⟩
 obtain ⟨W, hW⟩ : ∃ W, W = w.alloc (.cells #[.pointer (some ⟨st, 0, none⟩)] 100) := ⟨_, rfl⟩
 have hbW : Below w.heap.size w W := by rw [hW]; exact (Below.refl _ _).alloc (Nat.le_refl _) _
 have hsW : W.heap.size = w.heap.size + 1 := by rw [hW]; simp
 have hBW : aG W gb 100 #[.pointer (some ⟨st, 0, none⟩)] := by rw [hW, hgb]; exact aG.new w 100 _
 have hV := h.kept (fun b hb => hbW.block b (h.lt hb))
 have hstW := hst.below hbW hst.lt
 obtain ⟨ky, hky⟩ : ∃ ky, ky = K.syncs := ⟨_, rfl⟩
 have cb := hBW.cell 0
 have cs0 := hstW.cell 0
 have cs1 := hstW.cell 1
 have cs2 := hstW.cell 2
 have cs3 := hstW.cell 3
 have c4 := hV.blk.cell 4
 simp [cU] at cb cs0 cs1 cs2 cs3 c4
 rw [<- hky] at c4
 subst hsy
 subst hky
 have HGB : Hid (gb < W.heap.size) := Lib.hid (by omega)
 have HGS : Hid (st < W.heap.size) := Lib.hid hstW.lt
 have HGG : Hid (g < W.heap.size) := Lib.hid hV.blk.lt
 have HCB := Lib.hid cb
 have HS2 := Lib.hid cs2
 have HS3 := Lib.hid cs3
 have HBL := Lib.hid hV.blk
 have HV := Lib.hid hV
 have HbW := Lib.hid hbW
 have HSW := Lib.hid hsW
 have HLT : Hid (∀ b ∈ g :: gw :: gm :: gr :: O, b < w.heap.size) := Lib.hid (fun b hb => h.lt hb)
 have HCL : Hid (∀ w', Below W.heap.size W w' -> Calls Tryz.prog 79 #[.map (some mb)] w' fun e w'' => e = .returned (.map (some w'.heap.size)) /\ eX w'' w'.heap.size m F /\ Below w'.heap.size w' w'') := Lib.hid (fun w' hb => xU ((hmb.below hbW).below hb))
 have HCO : Hid (∀ w', Below W.heap.size W w' -> Calls Tryz.prog 42 #[.pointer (some ⟨rb, 0, none⟩)] w' fun e w'' => e = .returned (.pointer (some ⟨w'.heap.size, 0, none⟩)) /\ aU w'' w'.heap.size N1 H /\ Below w'.heap.size w' w'') := Lib.hid (fun w' hb => by rw [hN1]; exact pT ((hrb.below hbW).below hb))
 have HN1 := Lib.hid hN1
 rw [hgb] at cb HCB HGB
 clear hst hmb hrb hV h hBW hstW hsW hbW hN1
 subst hgb
 go_enter Tryz.func49, Tryz.ntmps49
 go_upto_region 1 with fail
 rw [<- hW]
 clear hW
 have hpp : ∀ w', (binOp BinOp.neq 25 (.pointer (some ⟨g, 0, none⟩)) (.pointer (some ⟨g, 0, none⟩))).run Tryz.prog w' = .ok (.bool false) w' := Sw g
 go_quiet (fail)
 clear cb cs0 cs1 cs2 cs3 c4
 go_upto_region 2 with fail
 obtain ⟨gb, hgb⟩ : ∃ gb, gb = w.heap.size := ⟨_, rfl⟩
 rw [<- hgb] at HGB HCB ⊢
 clear hgb
 refine zG 20 Zi (Hi [some (.pointer (some ⟨g, 0, none⟩)), some (.pointer (some ⟨g, 0, none⟩)), some (.pointer (some ⟨gb, 0, none⟩)), some (.pointer (some ⟨st, 0, none⟩)), some (.pointer (some ⟨st, 0, none⟩)), some (.pointer (some ⟨st, 2, none⟩)), some (.map (some mb)), none, some (.pointer (some ⟨gb, 0, none⟩)), some (.pointer (some ⟨st, 0, none⟩)), some (.pointer (some ⟨st, 0, none⟩)), some (.pointer (some ⟨st, 3, none⟩)), some (.pointer (some ⟨rb, 0, none⟩)), none, some (.pointer (some ⟨g, 0, none⟩)), some (.pointer (some ⟨g, 1, none⟩)), none, some (.pointer (some ⟨g, 0, none⟩)), some (.pointer (some ⟨g, 2, none⟩)), none] g m N1 F H W) (by kernel_rfl) (by kernel_rfl) rfl (by kernel_rfl) (by kernel_rfl) ?h0 ?hops ?hrest
 case h0 => exact ⟨_, ⟨((Below.refl _ _).trans (Nq _ _)).drew, fun _ h => by cases h⟩, rfl⟩
 case hops =>
  intro o ho L f y w' hcl hF hLo hJ hw hy
  obtain ⟨v, hv, hw1⟩ := id hJ
  have hw' : L 16 = false -> L 19 = false -> v = w' := fun a b => by rw [hw1]; unfold Yo; rw [a, b]; rfl
  have hw16' : L 16 = true -> L 19 = false -> w' = v.setCell ⟨g, 1, none⟩ (f 7) := fun a b => by rw [hw1]; unfold Yo; rw [a, b]; rfl
  clear hw1
  rcases (show o = 0 \/ o = 1 \/ o = 2 \/ o = 3 \/ o = 4 \/ o = 5 \/ o = 6 \/ o = 7 \/ o = 8 \/ o = 9 \/ o = 10 \/ o = 11 \/ o = 12 \/ o = 13 \/ o = 14 \/ o = 15 \/ o = 16 \/ o = 17 \/ o = 18 \/ o = 19 by omega) with rfl | rfl | rfl | rfl | rfl | rfl | rfl | rfl | rfl | rfl | rfl | rfl | rfl | rfl | rfl | rfl | rfl | rfl | rfl | rfl
  ·have e0 : y.tmps[0]?.getD undef = .pointer (some ⟨g, 0, none⟩) := by rw [hF 0 (sB (by kernel_rfl))]; rfl
   have HJ := Lib.hid hJ
   clear hw hy hF hcl hJ hv hw' hLo
   refine aA (v := .pointer (some ⟨g, 0, none⟩)) (w' := w') rfl rfl ?_ ⟨_, rfl, HJ.out.plain rfl (by decide) (by decide) (by decide) (by decide)⟩
   go_simp
  ·have e0 : y.tmps[0]?.getD undef = .pointer (some ⟨g, 0, none⟩) := by rw [hF 0 (sB (by kernel_rfl))]; rfl
   have HJ := Lib.hid hJ
   clear hw hy hF hcl hJ hv hw' hLo
   refine aA (v := .pointer (some ⟨g, 0, none⟩)) (w' := w') rfl rfl ?_ ⟨_, rfl, HJ.out.plain rfl (by decide) (by decide) (by decide) (by decide)⟩
   go_simp
  ·have e3 : y.tmps[3]?.getD undef = .pointer (some ⟨gb, 0, none⟩) := by rw [hF 3 (sB (by kernel_rfl))]; rfl
   have HJ := Lib.hid hJ
   clear hw hy hF hcl hJ hv hw' hLo
   refine aA (v := .pointer (some ⟨gb, 0, none⟩)) (w' := w') rfl rfl ?_ ⟨_, rfl, HJ.out.plain rfl (by decide) (by decide) (by decide) (by decide)⟩
   go_simp
  ·have h16 : L 16 = false := by
    cases hl : L 16 with
    | false => rfl
    | true => exact absurd hl (by intro hl; have k3 := hcl 16 hl 3 (of_decide_eq_true (by kernel_rfl)); rw [k3] at hLo; cases hLo)
   have h19 : L 19 = false := by
    cases hl : L 19 with
    | false => rfl
    | true => rw [hcl 19 hl 16 (of_decide_eq_true (by kernel_rfl))] at h16; cases h16
   obtain rfl := hw' h16 h19
   have e34 : y.tmps[34]?.getD undef = .pointer (some ⟨gb, 0, none⟩) := (hy 2 34 (by omega) (hw 2 (of_decide_eq_true (by kernel_rfl))) rfl).trans ((hv.2 2 (hw 2 (of_decide_eq_true (by kernel_rfl)))).1 _ rfl)
   have cb := (hv.1.cell (p := ⟨gb, 0, none⟩) HGB.out).trans HCB.out
   have HJ := Lib.hid hJ
   clear hw hy hF hcl hJ hv hw' h16 h19 hLo
   refine aA (v := .pointer (some ⟨st, 0, none⟩)) (w' := v) rfl rfl ?_ ⟨_, rfl, HJ.out.plain rfl (by decide) (by decide) (by decide) (by decide)⟩
   go_simp
  ·have e35 : y.tmps[35]?.getD undef = .pointer (some ⟨st, 0, none⟩) := (hy 3 35 (by omega) (hw 3 (of_decide_eq_true (by kernel_rfl))) rfl).trans ((hv.2 3 (hw 3 (of_decide_eq_true (by kernel_rfl)))).1 _ rfl)
   have HJ := Lib.hid hJ
   clear hw hy hF hcl hJ hv hw' hLo
   refine aA (v := .pointer (some ⟨st, 0, none⟩)) (w' := w') rfl rfl ?_ ⟨_, rfl, HJ.out.plain rfl (by decide) (by decide) (by decide) (by decide)⟩
   go_simp
  ·have e36 : y.tmps[36]?.getD undef = .pointer (some ⟨st, 0, none⟩) := (hy 4 36 (by omega) (hw 4 (of_decide_eq_true (by kernel_rfl))) rfl).trans ((hv.2 4 (hw 4 (of_decide_eq_true (by kernel_rfl)))).1 _ rfl)
   have HJ := Lib.hid hJ
   clear hw hy hF hcl hJ hv hw' hLo
   refine aA (v := .pointer (some ⟨st, 2, none⟩)) (w' := w') rfl rfl ?_ ⟨_, rfl, HJ.out.plain rfl (by decide) (by decide) (by decide) (by decide)⟩
   go_simp
  ·have h16 : L 16 = false := by
    cases hl : L 16 with
    | false => rfl
    | true => exact absurd hl (by intro hl; have k6 := hcl 16 hl 6 (of_decide_eq_true (by kernel_rfl)); rw [k6] at hLo; cases hLo)
   have h19 : L 19 = false := by
    cases hl : L 19 with
    | false => rfl
    | true => rw [hcl 19 hl 16 (of_decide_eq_true (by kernel_rfl))] at h16; cases h16
   obtain rfl := hw' h16 h19
   have e37 : y.tmps[37]?.getD undef = .pointer (some ⟨st, 2, none⟩) := (hy 5 37 (by omega) (hw 5 (of_decide_eq_true (by kernel_rfl))) rfl).trans ((hv.2 5 (hw 5 (of_decide_eq_true (by kernel_rfl)))).1 _ rfl)
   have cs2 := (hv.1.cell (p := ⟨st, 2, none⟩) HGS.out).trans HS2.out
   have HJ := Lib.hid hJ
   clear hw hy hF hcl hJ hv hw' h16 h19 hLo
   refine aA (v := .map (some mb)) (w' := v) rfl rfl ?_ ⟨_, rfl, HJ.out.plain rfl (by decide) (by decide) (by decide) (by decide)⟩
   go_simp
  ·have h16 : L 16 = false := by
    cases hl : L 16 with
    | false => rfl
    | true => exact absurd hl (by intro hl; have k7 := hcl 16 hl 7 (of_decide_eq_true (by kernel_rfl)); rw [k7] at hLo; cases hLo)
   have h19 : L 19 = false := by
    cases hl : L 19 with
    | false => rfl
    | true => rw [hcl 19 hl 16 (of_decide_eq_true (by kernel_rfl))] at h16; cases h16
   obtain rfl := hw' h16 h19
   have e38 : y.tmps[38]?.getD undef = .map (some mb) := (hy 6 38 (by omega) (hw 6 (of_decide_eq_true (by kernel_rfl))) rfl).trans ((hv.2 6 (hw 6 (of_decide_eq_true (by kernel_rfl)))).1 _ rfl)
   have HV := Lib.hid hv
   have HHJ := Lib.hid (And.intro h16 h19)
   clear hw hy hF hcl hJ hv hw' h16 h19 hLo
   refine aP (f := 79) (args := #[.map (some mb)]) rfl rfl (by go_simp) ((HCL.out _ HV.out.1).mono ?_)
   rintro e w'' ⟨rfl, hm, hb⟩
   exact ⟨_, rfl, _, rfl, Hi.call (HV.out.put hb ⟨(fun _ h => by cases h), fun _ => ⟨_, rfl, HV.out.1.size, hm⟩, fun h => by cases h⟩) (by simpa using HHJ.out.1) (by simpa using HHJ.out.2)⟩
  ·have e3 : y.tmps[3]?.getD undef = .pointer (some ⟨gb, 0, none⟩) := by rw [hF 3 (sB (by kernel_rfl))]; rfl
   have HJ := Lib.hid hJ
   clear hw hy hF hcl hJ hv hw' hLo
   refine aA (v := .pointer (some ⟨gb, 0, none⟩)) (w' := w') rfl rfl ?_ ⟨_, rfl, HJ.out.plain rfl (by decide) (by decide) (by decide) (by decide)⟩
   go_simp
  ·have h16 : L 16 = false := by
    cases hl : L 16 with
    | false => rfl
    | true => exact absurd hl (by intro hl; have k12 := hcl 16 hl 12 (of_decide_eq_true (by kernel_rfl)); have k11 := hcl 12 k12 11 (of_decide_eq_true (by kernel_rfl)); have k10 := hcl 11 k11 10 (of_decide_eq_true (by kernel_rfl)); have k9 := hcl 10 k10 9 (of_decide_eq_true (by kernel_rfl)); rw [k9] at hLo; cases hLo)
   have h19 : L 19 = false := by
    cases hl : L 19 with
    | false => rfl
    | true => rw [hcl 19 hl 16 (of_decide_eq_true (by kernel_rfl))] at h16; cases h16
   obtain rfl := hw' h16 h19
   have e40 : y.tmps[40]?.getD undef = .pointer (some ⟨gb, 0, none⟩) := (hy 8 40 (by omega) (hw 8 (of_decide_eq_true (by kernel_rfl))) rfl).trans ((hv.2 8 (hw 8 (of_decide_eq_true (by kernel_rfl)))).1 _ rfl)
   have cb := (hv.1.cell (p := ⟨gb, 0, none⟩) HGB.out).trans HCB.out
   have HJ := Lib.hid hJ
   clear hw hy hF hcl hJ hv hw' h16 h19 hLo
   refine aA (v := .pointer (some ⟨st, 0, none⟩)) (w' := v) rfl rfl ?_ ⟨_, rfl, HJ.out.plain rfl (by decide) (by decide) (by decide) (by decide)⟩
   go_simp
  ·have e41 : y.tmps[41]?.getD undef = .pointer (some ⟨st, 0, none⟩) := (hy 9 41 (by omega) (hw 9 (of_decide_eq_true (by kernel_rfl))) rfl).trans ((hv.2 9 (hw 9 (of_decide_eq_true (by kernel_rfl)))).1 _ rfl)
   have HJ := Lib.hid hJ
   clear hw hy hF hcl hJ hv hw' hLo
   refine aA (v := .pointer (some ⟨st, 0, none⟩)) (w' := w') rfl rfl ?_ ⟨_, rfl, HJ.out.plain rfl (by decide) (by decide) (by decide) (by decide)⟩
   go_simp
  ·have e42 : y.tmps[42]?.getD undef = .pointer (some ⟨st, 0, none⟩) := (hy 10 42 (by omega) (hw 10 (of_decide_eq_true (by kernel_rfl))) rfl).trans ((hv.2 10 (hw 10 (of_decide_eq_true (by kernel_rfl)))).1 _ rfl)
   have HJ := Lib.hid hJ
   clear hw hy hF hcl hJ hv hw' hLo
   refine aA (v := .pointer (some ⟨st, 3, none⟩)) (w' := w') rfl rfl ?_ ⟨_, rfl, HJ.out.plain rfl (by decide) (by decide) (by decide) (by decide)⟩
   go_simp
  ·have h16 : L 16 = false := by
    cases hl : L 16 with
    | false => rfl
    | true => exact absurd hl (by intro hl; have k12 := hcl 16 hl 12 (of_decide_eq_true (by kernel_rfl)); rw [k12] at hLo; cases hLo)
   have h19 : L 19 = false := by
    cases hl : L 19 with
    | false => rfl
    | true => rw [hcl 19 hl 16 (of_decide_eq_true (by kernel_rfl))] at h16; cases h16
   obtain rfl := hw' h16 h19
   have e43 : y.tmps[43]?.getD undef = .pointer (some ⟨st, 3, none⟩) := (hy 11 43 (by omega) (hw 11 (of_decide_eq_true (by kernel_rfl))) rfl).trans ((hv.2 11 (hw 11 (of_decide_eq_true (by kernel_rfl)))).1 _ rfl)
   have cs3 := (hv.1.cell (p := ⟨st, 3, none⟩) HGS.out).trans HS3.out
   have HJ := Lib.hid hJ
   clear hw hy hF hcl hJ hv hw' h16 h19 hLo
   refine aA (v := .pointer (some ⟨rb, 0, none⟩)) (w' := v) rfl rfl ?_ ⟨_, rfl, HJ.out.plain rfl (by decide) (by decide) (by decide) (by decide)⟩
   go_simp
  ·have h16 : L 16 = false := by
    cases hl : L 16 with
    | false => rfl
    | true => exact absurd hl (by intro hl; have k13 := hcl 16 hl 13 (of_decide_eq_true (by kernel_rfl)); rw [k13] at hLo; cases hLo)
   have h19 : L 19 = false := by
    cases hl : L 19 with
    | false => rfl
    | true => rw [hcl 19 hl 16 (of_decide_eq_true (by kernel_rfl))] at h16; cases h16
   obtain rfl := hw' h16 h19
   have e44 : y.tmps[44]?.getD undef = .pointer (some ⟨rb, 0, none⟩) := (hy 12 44 (by omega) (hw 12 (of_decide_eq_true (by kernel_rfl))) rfl).trans ((hv.2 12 (hw 12 (of_decide_eq_true (by kernel_rfl)))).1 _ rfl)
   have HV := Lib.hid hv
   have HHJ := Lib.hid (And.intro h16 h19)
   clear hw hy hF hcl hJ hv hw' h16 h19 hLo
   refine aP (f := 42) (args := #[.pointer (some ⟨rb, 0, none⟩)]) rfl rfl (by go_simp) ((HCO.out _ HV.out.1).mono ?_)
   rintro e w'' ⟨rfl, hm, hb⟩
   exact ⟨_, rfl, _, rfl, Hi.call (HV.out.put hb ⟨(fun _ h => by cases h), (fun h => by cases h), fun _ => ⟨_, rfl, HV.out.1.size, hm⟩⟩) (by simpa using HHJ.out.1) (by simpa using HHJ.out.2)⟩
  ·have e32 : y.tmps[32]?.getD undef = .pointer (some ⟨g, 0, none⟩) := (hy 0 32 (by omega) (hw 0 (of_decide_eq_true (by kernel_rfl))) rfl).trans ((hv.2 0 (hw 0 (of_decide_eq_true (by kernel_rfl)))).1 _ rfl)
   have HJ := Lib.hid hJ
   clear hw hy hF hcl hJ hv hw' hLo
   refine aA (v := .pointer (some ⟨g, 0, none⟩)) (w' := w') rfl rfl ?_ ⟨_, rfl, HJ.out.plain rfl (by decide) (by decide) (by decide) (by decide)⟩
   go_simp
  ·have e46 : y.tmps[46]?.getD undef = .pointer (some ⟨g, 0, none⟩) := (hy 14 46 (by omega) (hw 14 (of_decide_eq_true (by kernel_rfl))) rfl).trans ((hv.2 14 (hw 14 (of_decide_eq_true (by kernel_rfl)))).1 _ rfl)
   have HJ := Lib.hid hJ
   clear hw hy hF hcl hJ hv hw' hLo
   refine aA (v := .pointer (some ⟨g, 1, none⟩)) (w' := w') rfl rfl ?_ ⟨_, rfl, HJ.out.plain rfl (by decide) (by decide) (by decide) (by decide)⟩
   go_simp
  ·have h16 : L 16 = false := hLo
   have h19 : L 19 = false := by
    cases hl : L 19 with
    | false => rfl
    | true => rw [hcl 19 hl 16 (of_decide_eq_true (by kernel_rfl))] at h16; cases h16
   obtain rfl := hw' h16 h19
   have e47 : y.tmps[47]?.getD undef = .pointer (some ⟨g, 1, none⟩) := (hy 15 47 (by omega) (hw 15 (of_decide_eq_true (by kernel_rfl))) rfl).trans ((hv.2 15 (hw 15 (of_decide_eq_true (by kernel_rfl)))).1 _ rfl)
   obtain ⟨q7, ef7, hq7, -⟩ := (hv.2 7 (hw 7 (of_decide_eq_true (by kernel_rfl)))).2.1 rfl
   have e39 : y.tmps[39]?.getD undef = .map (some q7) := (hy 7 39 (by omega) (hw 7 (of_decide_eq_true (by kernel_rfl))) rfl).trans ef7
   have hB := HBL.out.below hv.1 HGG.out
   have c1 := hB.cell 1
   have q1 := hB.frozen 1
   simp [cU] at c1
   have HF7 := Lib.hid ef7
   have HJJ := Lib.hid (Hi.st1 (u := undef) hJ rfl h16 h19)
   clear hw hy hF hcl hJ hv hw' h16 h19 hLo hB ef7
   rw [HF7.out] at HJJ
   refine eC (w' := v.setCell ⟨g, 1, none⟩ (.map (some q7))) rfl rfl ?_ ⟨_, rfl, HJJ.out⟩
   go_simp
  ·have e33 : y.tmps[33]?.getD undef = .pointer (some ⟨g, 0, none⟩) := (hy 1 33 (by omega) (hw 1 (of_decide_eq_true (by kernel_rfl))) rfl).trans ((hv.2 1 (hw 1 (of_decide_eq_true (by kernel_rfl)))).1 _ rfl)
   have HJ := Lib.hid hJ
   clear hw hy hF hcl hJ hv hw' hLo
   refine aA (v := .pointer (some ⟨g, 0, none⟩)) (w' := w') rfl rfl ?_ ⟨_, rfl, HJ.out.plain rfl (by decide) (by decide) (by decide) (by decide)⟩
   go_simp
  ·have e48 : y.tmps[48]?.getD undef = .pointer (some ⟨g, 0, none⟩) := (hy 17 48 (by omega) (hw 17 (of_decide_eq_true (by kernel_rfl))) rfl).trans ((hv.2 17 (hw 17 (of_decide_eq_true (by kernel_rfl)))).1 _ rfl)
   have HJ := Lib.hid hJ
   clear hw hy hF hcl hJ hv hw' hLo
   refine aA (v := .pointer (some ⟨g, 2, none⟩)) (w' := w') rfl rfl ?_ ⟨_, rfl, HJ.out.plain rfl (by decide) (by decide) (by decide) (by decide)⟩
   go_simp
  ·have h16 : L 16 = true := hw 16 (of_decide_eq_true (by kernel_rfl))
   have e49 : y.tmps[49]?.getD undef = .pointer (some ⟨g, 2, none⟩) := (hy 18 49 (by omega) (hw 18 (of_decide_eq_true (by kernel_rfl))) rfl).trans ((hv.2 18 (hw 18 (of_decide_eq_true (by kernel_rfl)))).1 _ rfl)
   obtain ⟨q13, ef13, hq13, -⟩ := (hv.2 13 (hw 13 (of_decide_eq_true (by kernel_rfl)))).2.2 rfl
   have e45 : y.tmps[45]?.getD undef = .pointer (some ⟨q13, 0, none⟩) := (hy 13 45 (by omega) (hw 13 (of_decide_eq_true (by kernel_rfl))) rfl).trans ef13
   obtain ⟨q7, ef7, -, -⟩ := (hv.2 7 (hcl 16 h16 7 (of_decide_eq_true (by kernel_rfl)))).2.1 rfl
   have hw16 := hw16' h16 hLo
   rw [ef7] at hw16
   have hB := (HBL.out.below hv.1 HGG.out).put 1 (.map (some q7))
   rw [<- hw16] at hB
   have c2 := hB.cell 2
   have q2 := hB.frozen 2
   simp [cU] at c2
   have HJJ := Lib.hid (Hi.st2 (u := undef) hJ rfl h16 hLo)
   rw [ef13] at HJJ
   clear hw hy hF hcl hJ hv hw' hw16' h16 hLo hB ef13 ef7 hw16
   refine eC (w' := w'.setCell ⟨g, 2, none⟩ (.pointer (some ⟨q13, 0, none⟩))) rfl rfl ?_ ⟨_, rfl, HJJ.out⟩
   go_simp
 case hrest =>
  intro L f w' hL hJ
  obtain ⟨v, hv, hw1⟩ := hJ
  obtain ⟨q7, ef7, hq7, hm7⟩ := (hv.2 7 (hL 7 (by omega))).2.1 rfl
  obtain ⟨q13, ef13, hq13, hr13⟩ := (hv.2 13 (hL 13 (by omega))).2.2 rfl
  have hwv : w' = (v.setCell ⟨g, 1, none⟩ (.map (some q7))).setCell ⟨g, 2, none⟩ (.pointer (some ⟨q13, 0, none⟩)) := by rw [hw1]; unfold Yo; rw [hL 19 (by omega), if_pos rfl, ef7, ef13]
  have hne := zW hm7 hr13
  have hsz := HSW.out
  have hlt := HLT.out
  have hVv : cM v g gw gm gr gd m O K := HV.out.kept (fun b hb => hv.1.block b (by have := hlt b hb; omega))
  obtain ⟨a1, a2, a3, a4, a5, a6, a7, a8, a9, a10⟩ := hVv.nodup
  have l1 := hlt g (by simp)
  have l2 := hlt gw (by simp)
  have hkW : aR [g] v w' := by rw [hwv]; exact ((aR.refl _ _).put (.inl (by simp)) 1 _).put (.inl (by simp)) 2 _
  rw [HN1.out] at hr13
  have hD : cM w' g gw q7 q13 gd m O (nW K F H) := by
   refine ⟨?_, hVv.wal.keep hkW (by simp; exact fun e => a1 e.symm), hVv.disk.far hkW (fun b hb => by simp; rintro rfl; exact a7 hb), hm7.keep hkW (by simp; omega), hr13.keep hkW (by simp; omega), ?_⟩
   ·rw [hwv]
    have := (hVv.blk.put 1 (.map (some q7))).put 2 (.pointer (some ⟨q13, 0, none⟩))
    simpa [cU, nW] using this
   ·have hO := hVv.apart
    simp only [List.nodup_cons, List.mem_cons, not_or] at hO ⊢
    exact ⟨⟨a1, by omega, by omega, a7⟩, ⟨by omega, by omega, a8⟩, ⟨hne, fun e => by have := hlt q7 (by simp [e]); omega⟩, fun e => by have := hlt q13 (by simp [e]); omega, hO.2.2.2.2⟩
  have hP : bC (g :: gw :: gm :: gr :: O) g gd m (nW K F H) w w' := by
   refine ⟨_, ⟨gw, q7, q13, O, rfl, hD⟩, fun b hb => ?_, (aR.of_below (HbW.out.trans (hv.1.mono HbW.out.size))).trans' (hkW.mono (fun b hb => .inl (by simp at hb; subst hb; simp)))⟩
   simp only [List.mem_cons] at hb ⊢
   rcases hb with h | h | h | h | h
   ·exact .inl (.inl h)
   ·exact .inl (.inr (.inl h))
   ·exact .inr (by omega)
   ·exact .inr (by omega)
   ·exact .inl (.inr (.inr (.inr (.inr h))))
  exact xC rfl rfl ⟨rfl, hP⟩
end
end Go.Proofs.YtingkbeifohihaaGreatDoor
