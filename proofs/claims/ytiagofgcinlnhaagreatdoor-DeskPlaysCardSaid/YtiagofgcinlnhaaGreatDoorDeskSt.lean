/-
  A desk between two calls of a statement: contracts over one word for what is where. No statement is proved here.
-/
import Derived.Test.YtiagofgcinlnhaaGreatDoorDeskSync
import Derived.Carry
namespace Go.Proofs.YtiagofgcinlnhaaGreatDoor
open Go.RowKit
def openK (S : DS) (q : Int) (H : List Int) : KD := ⟨S, q, true, 0, fun _ => .empty, H, bs (roomT (S.now.length - 111) H), 0, 0⟩
def KOpen (O : List Nat) (g gd m : Nat) (K : KD) (w w' : World) : Prop := ∃ P', DeskAt w' P' g gd m K ∧ (∀ b ∈ P', b ∈ O ∨ w.heap.size ≤ b) ∧ Keep O w w' ∧ w.heap.size ≤ g
section
variable {w w' : World} {gd N : Nat} {O : List Nat} {S : DS} {q : Int} {h : List ByteArray}
def sector1 (h : List ByteArray) : ByteArray := h.getD 1 .empty
theorem held_read (hs : Held N q h S.now) (hon : S.on = true) : S.read (111 + 1) = sector1 h ∧ S.errR (111 + 1) = 0 := by
  have hd := hs.dim
  have h1 : 1 < N - 111 := by omega
  have h2 := hs.home 1 h1
  have h3 : S.now[112]? = some (sector1 h) := by
    rw [h2]
    have : 1 < h.length := by rw [hs.hlen]; exact h1
    unfold sector1
    rw [List.getD_eq_getElem?_getD, List.getElem?_eq_getElem this]
    rfl
  exact on_read hon (i := 112) h3
set_option maxRecDepth 100000 in
set_option maxHeartbeats 2000000 in
theorem kopen_go {H : List Int} (hon : S.on = true) (hs : Held N q h S.now) (h0 : (0 : Int) ∈ H) (h1 : (1 : Int) ∈ H) (hR : readR (sector1 h).data.toList = (N - 111, H, 0)) (hX : sector1 h = bs (roomT (N - 111) H))
    (HO : Calls Tryz.prog 57 #[.pointer (some ⟨gd, 0, none⟩)] w fun e w' => ∃ gw, e = .returned (.tuple #[.pointer (some ⟨gw, 0, none⟩), .int .i64 0]) ∧ OpenedAt O gd gw S q w w') :
    Calls Tryz.prog 28 #[.pointer (some ⟨gd, 0, none⟩)] w fun e w' => ∃ g, e = .returned (.tuple #[.pointer (some ⟨g, 0, none⟩), .int .i64 0]) ∧ KOpen O g gd 0 (openK S q H) w w' := by
  obtain ⟨hrd, hre⟩ := held_read hs hon
  obtain ⟨X, hXX⟩ : ∃ X, X = sector1 h := ⟨_, rfl⟩
  rw [← hXX] at hR hrd hX
  have HN : Hid (S.now.length = N) := Lib.hid hs.len
  have HDM := Lib.hid hs.dim
  have HRD : Hid (∀ (w1 : World) (gw : Nat) (O1 : List Nat), Blk w1 gw 101 (walC gd q true 0) → DiskAt w1 O1 gd S → Calls Tryz.prog 58 #[.pointer (some ⟨gw, 0, none⟩), .int .i64 1] w1 fun e w' => e = .returned (.tuple #[.string X, .int .i64 0]) ∧ Below w1.heap.size w1 w') := Lib.hid (by
    intro w1 gw O1 hb hd
    have hdm := HDM.out
    refine (wread_any (n := N) 1 hb hd HN.out (by omega) (by omega) (fun x hx => Nat.le_trans (hs.small x hx) (by omega))).mono ?_
    rintro e w' ⟨rfl, hb'⟩
    refine ⟨?_, hb'⟩
    rw [if_pos (by omega), hrd, hre])
  have HSZ : Hid (∀ (w1 : World) (gw : Nat) (O1 : List Nat), Blk w1 gw 101 (walC gd q true 0) → DiskAt w1 O1 gd S → Calls Tryz.prog 35 #[.pointer (some ⟨gw, 0, none⟩)] w1 fun e w' => e = .returned (.int .i64 ((N : Int) - 111)) ∧ w1 = w') := Lib.hid (fun w1 gw O1 hb hd => wsize_any (n := N) hb hd HN.out (by have := HDM.out; omega) (by have := HDM.out; omega))
  have HRR : Hid (∀ w1, Calls Tryz.prog 59 #[.string X] w1 fun e w' => Below w1.heap.size w1 w' ∧ ∃ g, e = .returned (.tuple #[.pointer (some ⟨g, 0, none⟩), .int .i64 0]) ∧ RoomAt w' g (N - 111) H ∧ w1.heap.size ≤ g) := Lib.hid (by
    intro w1
    refine (rread_room X w1).mono ?_
    rintro e w' ⟨hb, hr⟩
    rw [hR] at hr
    rcases hr with ⟨_, _, g, rfl, hr, hg⟩ | ⟨hr, _⟩
    · exact ⟨hb, g, rfl, hr, hg⟩
    · exact absurd rfl hr)
  have HM0 := Lib.hid h0
  have HM1 := Lib.hid h1
  have HXE := Lib.hid hX
  have hmm := @run_makeMap Tryz.prog
  have HOO := Lib.hid HO
  have hNI : ((N - 111 : Nat) : Int) = (N : Int) - 111 := by have := HDM.out; omega
  have HNI := Lib.hid hNI
  clear hs hR hrd hre hX hXX h0 h1 HO hNI
  go_enter Tryz.func28, Tryz.ntmps28
  go_wp2_with fail
  refine HOO.out.mono ?_
  rintro e w1 ⟨gw, rfl, O1, d1, d2, d3, d4, d5, d6⟩
  have HD1 := Lib.hid d1
  have H2 := Lib.hid d2
  have H3 := Lib.hid d3
  have HW1 := Lib.hid d4
  have H5 := Lib.hid d5
  have H6 := Lib.hid d6
  have HR1 := Lib.hid (HRD.out w1 gw O1 d4 d1)
  clear d1 d2 d3 d4 d5 d6 HOO HRD
  go_wp2_with fail
  refine HR1.out.mono ?_
  rintro e w2 ⟨rfl, hb2⟩
  have HB2 := Lib.hid hb2
  have HR2 := Lib.hid (HRR.out w2)
  clear hb2 HR1 HRR
  go_wp2_with fail
  refine HR2.out.mono ?_
  rintro e w3 ⟨hb3, gr, rfl, hr3, hg3⟩
  have HB3 : Hid (Below w1.heap.size w1 w3) := Lib.hid (HB2.out.trans (hb3.mono HB2.out.size))
  have HRM := Lib.hid hr3
  have HGR : Hid (w1.heap.size ≤ gr) := Lib.hid (Nat.le_trans HB2.out.size hg3)
  have HW3 : Hid (Blk w3 gw 101 (walC gd q true 0)) := Lib.hid (HW1.out.below HB3.out HW1.out.lt)
  have HD3 := Lib.hid (HD1.out.below HB3.out)
  have HSI : Hid (Calls Tryz.prog 50 #[.pointer (some ⟨gr, 0, none⟩)] w3 fun e w' => e = .returned (.int .i64 ((N : Int) - 111)) ∧ w' = w3) := Lib.hid (by rw [← HNI.out]; exact size_any hr3)
  have HSW := Lib.hid (HSZ.out w3 gw O1 HW3.out HD3.out)
  have HU0 : Hid (Calls Tryz.prog 43 #[.pointer (some ⟨gr, 0, none⟩), .int .i64 0] w3 fun e w' => e = .returned (.bool true) ∧ ∃ d, w' = w3.drewN d) := Lib.hid (by have := rused_any 0 hr3; rw [show decide ((0 : Int) ∈ H) = true from decide_eq_true HM0.out] at this; exact this)
  have HU1 : Hid (∀ d, Calls Tryz.prog 43 #[.pointer (some ⟨gr, 0, none⟩), .int .i64 1] (w3.drewN d) fun e w' => e = .returned (.bool true) ∧ ∃ d', w' = (w3.drewN d).drewN d') := Lib.hid (fun d => by have := rused_any 1 (HRM.out.drewN d); rw [show decide ((1 : Int) ∈ H) = true from decide_eq_true HM1.out] at this; exact this)
  clear hb3 hr3 hg3 HR2 HB2 HSZ
  go_wp2_with (go_at_call 50; refine HSI.out.mono ?_; rintro e w4 ⟨rfl, hw4⟩; have hw5 := hw4.symm; clear hw4; subst hw5)
  refine HSW.out.mono ?_
  rintro e w4 ⟨rfl, rfl⟩
  go_wp2_with fail
  refine HU0.out.mono ?_
  rintro e w5 ⟨rfl, d, rfl⟩
  go_wp2_with fail
  refine (HU1.out d).mono ?_
  rintro e w6 ⟨rfl, d', rfl⟩
  have HB6 : Hid (Below w1.heap.size w1 ((w3.drewN d).drewN d')) := Lib.hid ⟨HB3.out.os, HB3.out.tape, HB3.out.output, HB3.out.size, HB3.out.block⟩
  have HD6 : Hid (DiskAt ((w3.drewN d).drewN d') O1 gd S) := Lib.hid (HD3.out.kept fun _ _ => rfl)
  have HW6 : Hid (Blk ((w3.drewN d).drewN d') gw 101 (walC gd q true 0)) := HW3
  have HR6 : Hid (RoomAt ((w3.drewN d).drewN d') gr (N - 111) H) := Lib.hid ((HRM.out.drewN d).drewN d')
  obtain ⟨W, hW⟩ : ∃ W, W = (w3.drewN d).drewN d' := ⟨_, rfl⟩
  rw [← hW] at HB6 HD6 HW6 HR6
  rw [← hW]
  clear hW HU1 HU0 HSI HSW HW3 HD3 HRM HB3
  go_wp2_with fail
  go_ret2
  refine ⟨W.heap.size + 1, rfl, ?_⟩
  obtain ⟨V, hV⟩ : ∃ V, V = W.alloc (.map #[] 0) := ⟨_, rfl⟩
  rw [← hV]
  have hVs : V.heap.size = W.heap.size + 1 := by rw [hV]; simp
  have hBV : Below W.heap.size W V := by rw [hV]; exact (Below.refl _ _).alloc (Nat.le_refl _) _
  have hMV : MapW V W.heap.size 0 (fun _ => .empty) := by rw [hV]; exact MapW.made W
  rw [← hVs]
  have hBA : Below V.heap.size V (V.alloc (.cells (deskC gw W.heap.size gr X 0 0) 36)) := (Below.refl _ _).alloc (Nat.le_refl _) _
  have hB2 : Below W.heap.size W (V.alloc (.cells (deskC gw W.heap.size gr X 0 0) 36)) := hBV.trans (hBA.mono hBV.size)
  have hwl := HW6.out.lt
  have hrl := HR6.out.lt
  have hgr := HGR.out
  have hs1 := HB6.out.size
  have hgw : gw < w1.heap.size := HW1.out.lt
  have hO1 : ∀ b ∈ O1, b < w1.heap.size := fun b hb => HD1.out.lt hb
  have e1 : bs (roomT (S.now.length - 111) H) = X := by rw [HN.out]; exact HXE.out.symm
  have hOn : O1.Nodup := by
    obtain ⟨gn, gs, cn, cs, vd, vk, e, hd⟩ := HD1.out
    rw [e]
    exact hd.apart
  refine ⟨V.heap.size :: gw :: W.heap.size :: gr :: O1, ⟨gw, W.heap.size, gr, O1, rfl, ?_, HW6.out.below hB2 hwl, HD6.out.below hB2, hMV.below hBA, ?_, ?_⟩, ?_, ?_, ?_⟩
  · show Blk _ _ _ (deskC gw W.heap.size gr (bs (roomT (S.now.length - 111) H)) 0 0)
    rw [e1]
    exact Blk.new V _ _
  · show RoomAt _ gr (S.now.length - 111) H
    rw [HN.out]
    exact HR6.out.below hB2
  · simp only [List.nodup_cons, List.mem_cons, not_or]
    refine ⟨⟨by omega, by omega, by omega, fun hb => by have := hO1 _ hb; omega⟩, ⟨by omega, by omega, H6.out⟩, ⟨by omega, fun hb => by have := hO1 _ hb; omega⟩, fun hb => by have := hO1 _ hb; omega, hOn⟩
  · intro b hb
    have h3 := H3.out.size
    have h5 := H5.out
    simp only [List.mem_cons] at hb
    rcases hb with rfl | rfl | rfl | rfl | hb
    · exact .inr (by omega)
    · exact .inr h5
    · exact .inr (by omega)
    · exact .inr (by omega)
    · exact H2.out b hb
  · exact H3.out.below_in (HB6.out.trans (hB2.mono hs1))
  · have h3 := H3.out.size
    omega
end
def fmtK (S : DS) (q : Int) : KD := ⟨S, q, true, 0, updF (fun _ => .empty) 0 (zeroB 256), [0, 1], .empty, 0, 0⟩
theorem zeroS (w : World) : Calls Tryz.prog 36 #[.string ⟨#[0]⟩, .int .i64 256] w fun e w' => e = .returned (.string (zeroB 256)) ∧ Below w.heap.size w w' := by
  have HS := repeat_any ⟨#[0]⟩ 256 w (by omega) (by decide)
  rw [show (⟨(Lib.repeatL (⟨#[0]⟩ : ByteArray).data.toList 256).toArray⟩ : ByteArray) = zeroB 256 by show (⟨(Lib.repeatL [0] 256).toArray⟩ : ByteArray) = _; rw [drepeat_zero]; rfl] at HS
  exact HS
section
variable {w w' : World} {gd N : Nat} {O : List Nat} {S S' : DS} {q : Int} {h : List ByteArray}
set_option maxRecDepth 100000 in
set_option maxHeartbeats 2000000 in
theorem kany_ok (HO : Calls Tryz.prog 57 #[.pointer (some ⟨gd, 0, none⟩)] w fun e w' => ∃ gw, e = .returned (.tuple #[.pointer (some ⟨gw, 0, none⟩), .int .i64 0]) ∧ OpenedAt O gd gw S q w w') :
    Calls Tryz.prog 39 #[.pointer (some ⟨gd, 0, none⟩)] w fun e w' => ∃ gw, e = .returned (.tuple #[.pointer (some ⟨gw, 0, none⟩), .int .i64 0]) ∧ OpenedAt O gd gw S q w w' := by
  have HOO := Lib.hid HO
  clear HO
  go_enter Tryz.func39, Tryz.ntmps39
  go_wp2_with fail
  refine HOO.out.mono ?_
  rintro e w1 ⟨gw, rfl, ho⟩
  have HO := Lib.hid ho
  clear ho HOO
  go_wp2_with fail
  go_ret2
  exact ⟨gw, rfl, HO.out⟩
theorem DTurns.comp {P P1 : List Nat} {g m : Nat} {K : KD} {w0 : World} (h1 : ∀ b ∈ P1, b ∈ P ∨ w0.heap.size ≤ b) (k1 : Keep P w0 w) (h : DTurns P1 g gd m K w w') : DTurns P g gd m K w0 w' := by
  obtain ⟨P2, a1, a2, a3⟩ := h
  refine ⟨P2, a1, fun b hb => ?_, k1.trans a3 h1⟩
  rcases a2 b hb with h | h
  · exact h1 b h
  · exact .inr (Nat.le_trans k1.size h)
theorem desk_made {w1 W : World} {gw gr : Nat} {O1 : List Nat} {H : List Int} (X : ByteArray) (hB : Below w1.heap.size w1 W) (hd : DiskAt w1 O1 gd S) (hw : Blk w1 gw 101 (walC gd q true 0)) (h6 : gw ∉ O1) (hr : RoomAt W gr (N - 111) H) (hgr : w1.heap.size ≤ gr) (hn : S.now.length = N) :
    DeskIs ((W.alloc (.map #[] 0)).alloc (.cells (deskC gw W.heap.size gr X 0 0) 36)) (W.heap.size + 1) gw W.heap.size gr gd 0 O1 ⟨S, q, true, 0, fun _ => .empty, H, X, 0, 0⟩ ∧ Below W.heap.size W ((W.alloc (.map #[] 0)).alloc (.cells (deskC gw W.heap.size gr X 0 0) 36)) := by
  have HD6 := hd.below hB
  have HW6 := hw.below hB hw.lt
  obtain ⟨V, hV⟩ : ∃ V, V = W.alloc (.map #[] 0) := ⟨_, rfl⟩
  rw [← hV]
  have hVs : V.heap.size = W.heap.size + 1 := by rw [hV]; simp
  have hBV : Below W.heap.size W V := by rw [hV]; exact (Below.refl _ _).alloc (Nat.le_refl _) _
  have hMV : MapW V W.heap.size 0 (fun _ => .empty) := by rw [hV]; exact MapW.made W
  rw [← hVs]
  have hBA : Below V.heap.size V (V.alloc (.cells (deskC gw W.heap.size gr X 0 0) 36)) := (Below.refl _ _).alloc (Nat.le_refl _) _
  have hB2 : Below W.heap.size W (V.alloc (.cells (deskC gw W.heap.size gr X 0 0) 36)) := hBV.trans (hBA.mono hBV.size)
  have hwl := HW6.lt
  have hrl := hr.lt
  have hs1 := hB.size
  have hgw : gw < w1.heap.size := hw.lt
  have hO1 : ∀ b ∈ O1, b < w1.heap.size := fun b hb => hd.lt hb
  have hOn : O1.Nodup := by
    obtain ⟨gn, gs, cn, cs, vd, vk, e, hd⟩ := hd
    rw [e]
    exact hd.apart
  refine ⟨⟨Blk.new V _ _, HW6.below hB2 hwl, HD6.below hB2, hMV.below hBA, ?_, ?_⟩, hB2⟩
  · show RoomAt _ gr (S.now.length - 111) H
    rw [hn]
    exact hr.below hB2
  · simp only [List.nodup_cons, List.mem_cons, not_or]
    exact ⟨⟨by omega, by omega, by omega, fun hb => by have := hO1 _ hb; omega⟩, ⟨by omega, by omega, h6⟩, ⟨by omega, fun hb => by have := hO1 _ hb; omega⟩, fun hb => by have := hO1 _ hb; omega, hOn⟩
theorem fmt_ok (hs : Held N q h S.now) : KOk N (fmtK S q) :=
  ⟨hs.len, hs.dim, by simp [fmtK], by simp [fmtK], fun t ht => by
    simp only [fmtK] at ht ⊢
    by_cases e : t = 0
    · subst e
      rw [updF_same]
      exact ⟨by simp, by decide, zeroB_size 256⟩
    · rw [updF_other _ _ e] at ht
      exact absurd rfl ht⟩
set_option maxRecDepth 100000 in
set_option maxHeartbeats 4000000 in
theorem kformat_go (hs : Held N q h S.now) (hok : S.Ok) (hl : S.left ≤ 100) (hw : S.writes < 700000000000) (hdi : S.dirty.length < 700000000000) (hE : syncE (fmtK S q) = 0)
    (HO : Calls Tryz.prog 39 #[.pointer (some ⟨gd, 0, none⟩)] w fun e w' => ∃ gw, e = .returned (.tuple #[.pointer (some ⟨gw, 0, none⟩), .int .i64 0]) ∧ OpenedAt O gd gw S q w w') :
    Calls Tryz.prog 7 #[.pointer (some ⟨gd, 0, none⟩)] w fun e w' => ∃ g, e = .returned (.tuple #[.pointer (some ⟨g, 0, none⟩), .int .i64 0]) ∧ KOpen O g gd 1 (syncK (fmtK S q)) w w' := by
  have HK := Lib.hid (fmt_ok hs)
  have HRUN : Hid (KRun (fmtK S q)) := Lib.hid ⟨hok, rfl, by have := hs.seq; exact this, by simp [fmtK], hl, hw, hdi, by simp [fmtK], rfl⟩
  have HN : Hid (S.now.length = N) := Lib.hid hs.len
  have HDM := Lib.hid hs.dim
  have HSZ : Hid (∀ (w1 : World) (gw : Nat) (O1 : List Nat), Blk w1 gw 101 (walC gd q true 0) → DiskAt w1 O1 gd S → Calls Tryz.prog 35 #[.pointer (some ⟨gw, 0, none⟩)] w1 fun e w' => e = .returned (.int .i64 ((N : Int) - 111)) ∧ w1 = w') := Lib.hid (fun w1 gw O1 hb hd => wsize_any (n := N) hb hd HN.out (by have := HDM.out; omega) (by have := HDM.out; omega))
  have HNI : Hid (((N - 111 : Nat) : Int) = (N : Int) - 111) := Lib.hid (by have := HDM.out; omega)
  have HNW : Hid (∀ (w1 : World) (w2 : World), w2 = w1.alloc (.cells #[.int .i64 0, .int .i64 1] 3) → Calls Tryz.prog 40 #[.int .i64 ((N : Int) - 111), .slice (some ⟨w1.heap.size, 0, none⟩) 2 2] w2 fun e w' => e = .returned (.tuple #[.pointer (some ⟨w2.heap.size, 0, none⟩), .int .i64 0]) ∧ RoomAt w' w2.heap.size (N - 111) [0, 1] ∧ Below w2.heap.size w2 w') := Lib.hid (by
    rintro w1 w2 rfl
    have hdm := HDM.out
    have hx : Ints (w1.alloc (.cells #[.int .i64 0, .int .i64 1] 3)) (w1.alloc (.cells #[.int .i64 0, .int .i64 1] 3)).heap.size (some ⟨w1.heap.size, 0, none⟩) [0, 1] := fun _ => ⟨w1.heap.size, 0, rfl, by simp, fun j x hx => by
      match j, hx with
      | 0, hx => simp at hx; subst hx; simp
      | 1, hx => simp at hx; subst hx; simp⟩
    have := rnew_any (N - 111) (some ⟨w1.heap.size, 0, none⟩) 2 2 [0, 1] _ (by omega) (by omega) rfl hx (by omega)
    rw [HNI.out] at this
    refine this.mono ?_
    rintro e w' ⟨hb, ⟨_, rfl, hr⟩ | ⟨hn, _⟩⟩
    · exact ⟨rfl, hr, hb⟩
    · exact absurd (fun x hx => by
        simp only [List.mem_cons, List.not_mem_nil, or_false] at hx
        rcases hx with rfl | rfl <;> omega) hn)
  have HEE := Lib.hid hE
  have HOO := Lib.hid HO
  have hmm := @run_makeMap Tryz.prog
  clear hs hok hl hw hdi hE HO
  go_enter Tryz.func7, Tryz.ntmps7
  go_wp2_with fail
  refine HOO.out.mono ?_
  rintro e w1 ⟨gw, rfl, O1, d1, d2, d3, d4, d5, d6⟩
  have HD1 := Lib.hid d1
  have H2 := Lib.hid d2
  have H3 := Lib.hid d3
  have HW1 := Lib.hid d4
  have H5 := Lib.hid d5
  have H6 := Lib.hid d6
  have HS1 := Lib.hid (HSZ.out w1 gw O1 d4 d1)
  clear d1 d2 d3 d4 d5 d6 HOO HSZ
  go_wp2_with fail
  refine HS1.out.mono ?_
  rintro e w2 ⟨rfl, rfl⟩
  clear HS1
  go_wp2_with fail
  refine (HNW.out w1 _ rfl).mono ?_
  rintro e w2 ⟨rfl, hr2, hb2⟩
  have HB2 : Hid (Below w1.heap.size w1 w2) := Lib.hid (((Below.refl _ w1).alloc (Nat.le_refl _) _).trans (hb2.mono (by simp)))
  have hsz : (w1.alloc (.cells #[.int .i64 0, .int .i64 1] 3)).heap.size = w1.heap.size + 1 := by simp
  rw [hsz] at hr2
  have HR2 := Lib.hid hr2
  clear hr2 hb2 HNW hsz
  have HMD := Lib.hid (desk_made .empty HB2.out HD1.out HW1.out H6.out HR2.out (by omega) HN.out)
  go_upto_region 8 with fail
  have HMD2 : Hid (∀ W, W = (w2.alloc (.map #[] 0)).alloc (.cells #[.pointer (some ⟨gw, 0, none⟩), .map (some w2.heap.size), .pointer (some ⟨w1.heap.size + 1, 0, none⟩), .string ⟨#[]⟩, .int .i64 0, .int .i64 0] 36) → DeskIs W (w2.heap.size + 1) gw w2.heap.size (w1.heap.size + 1) gd 0 O1 ⟨S, q, true, 0, fun _ => .empty, [0, 1], .empty, 0, 0⟩ ∧ Below w2.heap.size w2 W) := Lib.hid (by rintro W rfl; exact HMD.out)
  clear HMD
  obtain ⟨W3, hW3⟩ : ∃ W, W = (w2.alloc (.map #[] 0)).alloc (.cells #[.pointer (some ⟨gw, 0, none⟩), .map (some w2.heap.size), .pointer (some ⟨w1.heap.size + 1, 0, none⟩), .string ⟨#[]⟩, .int .i64 0, .int .i64 0] 36) := ⟨_, rfl⟩
  have HI3 := Lib.hid (HMD2.out W3 hW3).1
  have HB3 := Lib.hid (HMD2.out W3 hW3).2
  rw [← hW3]
  clear hW3 HMD2
  go_wp2_with fail
  refine (zeroS W3).mono ?_
  rintro e w4 ⟨rfl, hb4⟩
  have HB4 : Hid (Below w2.heap.size w2 w4) := Lib.hid (HB3.out.trans (hb4.mono HB3.out.size))
  have HI4 : Hid (DeskIs w4 (w2.heap.size + 1) gw w2.heap.size (w1.heap.size + 1) gd 0 O1 ⟨S, q, true, 0, fun _ => .empty, [0, 1], .empty, 0, 0⟩) := Lib.hid (HI3.out.kept (fun b hb => hb4.block b (HI3.out.lt hb)))
  have HL4 : Hid (Calls Tryz.prog 41 #[.pointer (some ⟨w2.heap.size + 1, 0, none⟩), .int .i64 0, .string (zeroB 256)] w4 fun e w' => e = .returned (.tuple #[]) ∧ DTurns ((w2.heap.size + 1) :: gw :: w2.heap.size :: (w1.heap.size + 1) :: O1) (w2.heap.size + 1) gd 1 (fmtK S q) w4 w') := Lib.hid (klay_any 0 (zeroB 256) HI4.out.at (by omega) (by unfold I64; omega) (fun e => by have := zeroB_size 256; rw [e] at this; exact absurd this (by decide)) (by rw [zeroB_size]; omega))
  clear hb4 HB3 HI3
  obtain ⟨z, hz⟩ : ∃ z, z = zeroB 256 := ⟨_, rfl⟩
  rw [← hz] at HL4
  rw [← hz]
  clear hz
  go_wp2_with fail
  refine HL4.out.mono ?_
  rintro e w5 ⟨rfl, hT5⟩
  have HT5 := Lib.hid hT5
  obtain ⟨P5, k1, k2, k3⟩ := hT5
  have HS5 : Hid (Calls Tryz.prog 23 #[.pointer (some ⟨w2.heap.size + 1, 0, none⟩)] w5 fun e w' => e = .returned (.int .i64 0) ∧ DTurns ((w2.heap.size + 1) :: gw :: w2.heap.size :: (w1.heap.size + 1) :: O1) (w2.heap.size + 1) gd 1 (syncK (fmtK S q)) w4 w') := Lib.hid (by
    refine (ksync_any (K := fmtK S q) (m := 1) k1 HK.out HRUN.out (by omega)).mono ?_
    rintro e w' ⟨rfl, hT⟩
    exact ⟨by rw [HEE.out], hT.comp k2 k3⟩)
  clear k1 k2 k3 HL4
  go_wp2_with fail
  refine HS5.out.mono ?_
  rintro e w6 ⟨rfl, hT6⟩
  have HT6 := Lib.hid hT6
  clear hT6 HS5
  go_wp2_with fail
  go_ret2
  obtain ⟨P6, a1, a2, a3⟩ := HT6.out
  have s1 := H3.out.size
  have s2 := HB2.out.size
  have s4 := HB4.out.size
  have s5 := H5.out
  have hkey : ∀ b ∈ (w2.heap.size + 1) :: gw :: w2.heap.size :: (w1.heap.size + 1) :: O1, b ∈ O ∨ w.heap.size ≤ b := fun b hb => by
    simp only [List.mem_cons] at hb
    rcases hb with rfl | rfl | rfl | rfl | hb
    · exact .inr (by omega)
    · exact .inr s5
    · exact .inr (by omega)
    · exact .inr (by omega)
    · exact H2.out b hb
  refine ⟨_, rfl, P6, a1, fun b hb => ?_, ?_, by omega⟩
  · rcases a2 b hb with h | h
    · exact hkey b h
    · exact .inr (by omega)
  · have k0 : Keep O w w4 := H3.out.below_in (HB2.out.trans (HB4.out.mono s2))
    exact k0.trans a3 hkey
end
theorem warm_group (s0 s : List ByteArray) (d : List (Nat × ByteArray)) (n : Nat) (g : List Wr1) (h : Fit s.length g) : (warm s0 s d n).errW g = 0 ∧ ((warm s0 s d n).write g).errF = 0 ∧ ((warm s0 s d n).write g).flush = calm (setI s g) (n + g.length) := by
  obtain ⟨h1, d', h2⟩ := warm_writeL s0 g s d n h
  have w1 : (warm s0 s d n).errW g = 0 := by
    unfold DS.errW
    rw [if_pos (show (warm s0 s d n).on = true from rfl)]
    exact h1
  have w2 : (warm s0 s d n).write g = warm s0 (setI s g) d' (n + g.length) := by
    unfold DS.write
    rw [if_pos (show (warm s0 s d n).on = true from rfl)]
    exact h2
  rw [w2]
  exact ⟨w1, rfl, rfl⟩
theorem warm_put (s0 s : List ByteArray) (d : List (Nat × ByteArray)) (n : Nat) (g : List Wr1) (r : List (List Wr1)) (h : Fit s.length g) : putE (warm s0 s d n) (g :: r) = putE (calm s n) (g :: r) ∧ putS (warm s0 s d n) (g :: r) = putS (calm s n) (g :: r) := by
  obtain ⟨a1, a2, a3⟩ := warm_group s0 s d n g h
  obtain ⟨b1, b2, b3⟩ := calm_group s n g h
  unfold putE putS
  rw [if_pos a1, if_pos a1, if_pos a2, if_pos a2, a3, if_pos b1, if_pos b1, if_pos b2, if_pos b2, b3]
  exact ⟨rfl, rfl⟩
section
variable {N : Nat} {q : Int} {l : List Wr1} {T : List Int}
theorem warm_commit (hok : CommitOk N q l T) (s0 s : List ByteArray) (hs : s.length = N) (d : List (Nat × ByteArray)) (n : Nat) (k : Int) : commitR (warm s0 s d n) q k l = ⟨calm (doneS s q l T) (n + (2 * T.length + 2)), q + 1, true, k + 1, 0⟩ := by
  have hr := hok.run s hs n k
  obtain ⟨e1, e2⟩ := warm_put s0 s d n (copiesL l 0 T) [[(0, bs (HD.mk (q + 1) true T).text)], homeL l T, [(0, bs (HD.mk (q + 1) false []).text)]] (by rw [hs]; exact hok.fits _ (by unfold groupsL; simp))
  have hp := hok.pos
  have hf := hok.few
  have c1 : refE ((((warm s0 s d n).now.length : Nat) : Int) - 111) l = 0 := by show refE ((s.length : Int) - 111) l = 0; rw [hs]; exact hok.ok
  have c2 : refE ((((calm s n).now.length : Nat) : Int) - 111) l = 0 := c1
  unfold commitR at hr ⊢
  rw [← hok.eq] at hr ⊢
  rw [if_neg (by rw [c2]; simp), if_neg (by omega), if_neg (by omega)] at hr
  rw [if_neg (by rw [c1]; simp), if_neg (by omega), if_neg (by omega)]
  unfold groupsL at hr ⊢
  rw [e1, e2]
  exact hr
end
theorem roomT_inj {n : Nat} {H H' : List Int} (ho : HOk n H) (ho' : HOk n H') (h1 : 1 ≤ n) (hn : n ≤ 1900) (e : roomT n H = roomT n H') : H = H' := by
  have e1 := readR_laid ho h1 hn
  rw [e, readR_laid ho' h1 hn] at e1
  exact (congrArg (fun p => p.2.1) e1).symm
theorem bs_inj {a b : List UInt8} (h : bs a = bs b) : a = b := by
  have := congrArg (fun x : ByteArray => x.data.toList) h
  simpa [bs] using this
section
variable {N : Nat} {K : KD}
theorem pend_fst (K : KD) : (pendL K).map Prod.fst = pendT K := by
  unfold pendL
  rw [List.map_map]
  exact List.map_id'' (fun _ => rfl) _
theorem pend_once (K : KD) : pendT K = putOnce ((pendL K).map Prod.fst) := by
  rw [pend_fst]
  exact strict_ext _ _ (pendT_rise K) (putOnce_spec _).1 fun z => ((putOnce_spec _).2 z).symm
theorem gF_size (hk : KOk N K) {t : Int} (ht : t ∈ pendT K) : (gF K t).size = 256 := by
  have hd := (pendT_mem.1 ht).2
  unfold gF
  unfold dirtyP at hd
  split
  · exact roomS_size K
  · rename_i e
    rw [if_neg e] at hd
    exact (hk.used t (of_decide_eq_true hd)).2.2
theorem pend_refE (hk : KOk N K) : refE ((N : Int) - 111) (pendL K) = 0 := refE_all (by
  intro x hx
  unfold pendL at hx
  obtain ⟨t, ht, rfl⟩ := List.mem_map.1 hx
  have h1 := (pendT_mem.1 ht).1
  have := hk.dim
  rw [hk.len] at h1
  exact ⟨h1.1, by show t < _; omega, gF_size hk ht⟩)
theorem pend_ok (hk : KOk N K) (hq : 0 ≤ K.seq ∧ K.seq < 1000000) (hp : pendT K ≠ []) (hl : (pendT K).length ≤ 110) : CommitOk N K.seq (pendL K) (pendT K) :=
  ⟨pend_once K, by have := hk.dim; omega, hl, by rw [pendL_length]; exact List.length_pos_iff.2 hp, pend_refE hk, by omega⟩
structure Run11 (N : Nat) (K : KD) (h : List ByteArray) (c : Nat) : Prop where
  still : ∃ s0 s d n, K.S = warm s0 s d n ∧ Held N K.seq h s ∧ n ≤ 1000 * c ∧ d.length ≤ 1
  sok : K.S.Ok
  ok : KOk N K
  hok : HOk (N - 111) K.H
  up : K.up = true
  bad : K.bad = 0
  kk : 0 ≤ K.k ∧ K.k ≤ c
  seq : K.seq ≤ c
  syncs : 0 ≤ K.syncs ∧ K.syncs ≤ c
variable {h : List ByteArray} {c : Nat}
theorem Run11.krun (r : Run11 N K h c) (hc : c ≤ 1000) : KRun K := by
  obtain ⟨s0, s, d, n, e, hs, hn, hd⟩ := r.still
  have h1 := r.kk
  have h2 := r.seq
  have h3 := r.syncs
  have h4 := hs.seq
  exact ⟨r.sok, r.up, ⟨h4.1, by omega⟩, by omega, by rw [e]; show 0 ≤ 100; omega, by rw [e]; show n < _; omega, by rw [e]; show d.length < _; omega, by omega, r.bad⟩
theorem Run11.now (r : Run11 N K h c) : Held N K.seq h K.S.now ∧ K.S.on = true := by
  obtain ⟨s0, s, d, n, e, hs, hn, hd⟩ := r.still
  rw [e]
  exact ⟨hs, rfl⟩
theorem Run11.small (r : Run11 N K h c) : ∀ x ∈ K.S.now, x.size ≤ 100000 := fun x hx => Nat.le_trans (r.now.1.small x hx) (by omega)
theorem Run11.fsize (r : Run11 N K h c) (t : Int) : (K.F t).size ≤ 100000 := by
  by_cases e : K.F t = .empty
  · rw [e]; decide
  · have := (r.ok.used t e).2.2; omega
def homeG (K : KD) (h : List ByteArray) (t : Nat) : ByteArray := if K.F (t : Int) ≠ .empty then K.F t else h.getD t .empty
theorem Run11.get (r : Run11 N K h c) {t : Nat} (ht : t < N - 111) : getR K (t : Int) = (homeG K h t, 0) := by
  obtain ⟨hs, hon⟩ := r.now
  unfold getR homeG
  by_cases e : K.F (t : Int) = .empty
  · have hd := r.ok.dim
    have hl := r.ok.len
    rw [if_neg (show ¬ K.F (t : Int) ≠ .empty from fun h => h e), if_pos (by omega), if_neg (show ¬ K.F (t : Int) ≠ .empty from fun h => h e)]
    have h2 := hs.home t ht
    have hlt : t < h.length := by rw [hs.hlen]; exact ht
    have h3 : K.S.now[111 + t]? = some (h.getD t .empty) := by
      rw [h2, List.getD_eq_getElem?_getD, List.getElem?_eq_getElem hlt]
      rfl
    obtain ⟨e1, e2⟩ := on_read hon h3
    rw [show (111 : Int) + (t : Int) = ((111 + t : Nat) : Int) by omega, e1, e2]
  · rw [if_pos e, if_pos e]
theorem Run11.sync (r : Run11 N K h c) (hc : c ≤ 1000) (hl : (pendL K).length ≤ 110) :
    syncE K = 0 ∧ Run11 N (syncK K) (setI h (pendL K)) (c + 1) ∧ pendT (syncK K) = [] ∧ (syncK K).H = K.H ∧ (syncK K).kept = roomS K ∧ (syncK K).F = (fun _ => .empty) ∧ (pendT K ≠ [] → (syncK K).S.writes = K.S.writes + (2 * (pendT K).length + 2) ∧ (syncK K).k = K.k + 1) := by
  obtain ⟨s0, s, d, n, e, hs, hn, hd⟩ := r.still
  have hseq := hs.seq
  have hq := r.seq
  have hlen : s.length = N := hs.len
  have hdim := r.ok.dim
  have key : ∀ (R : CR), commitR K.S K.seq K.k (pendL K) = R → R.e = 0 → R.S.now.length = K.S.now.length → R.up = true →
      syncE K = 0 ∧ syncK K = { comK K R with kept := roomS K, F := fun _ => .empty, syncs := K.syncs + 1 } ∧ pendT (syncK K) = [] := by
    intro R hR he hn hu
    have e1 : syncE K = 0 := by unfold syncE; rw [if_neg (by omega), hR, he]
    have e2 : syncK K = { comK K R with kept := roomS K, F := fun _ => .empty, syncs := K.syncs + 1 } := by unfold syncK; rw [if_neg (by omega), hR, if_pos he]
    refine ⟨e1, e2, ?_⟩
    rw [List.eq_nil_iff_forall_not_mem]
    intro t ht
    have h2 := (pendT_mem.1 ht).2
    rw [e2] at h2
    unfold dirtyP at h2
    split at h2
    · have h3 := of_decide_eq_true h2
      apply h3
      show bs (roomT (R.S.now.length - 111) K.H) = bs (roomT (K.S.now.length - 111) K.H)
      rw [hn]
    · have h3 := of_decide_eq_true h2
      exact h3 rfl
  by_cases hp : pendT K = []
  · have hR : commitR K.S K.seq K.k (pendL K) = ⟨K.S, K.seq, true, K.k, 0⟩ := by
      have e0 : pendL K = [] := by unfold pendL; rw [hp]; rfl
      rw [e0]
      rfl
    obtain ⟨a1, a2, a3⟩ := key _ hR rfl rfl rfl
    refine ⟨a1, ?_, a3, by rw [a2]; rfl, by rw [a2], by rw [a2], fun hne => absurd hp hne⟩
    have e0 : pendL K = [] := by unfold pendL; rw [hp]; rfl
    rw [a2, e0]
    exact ⟨⟨s0, s, d, n, e, hs, by omega, hd⟩, r.sok, ⟨r.ok.len, hdim, r.ok.zero, r.ok.one, fun t ht => absurd rfl ht⟩, r.hok, rfl, r.bad, by have := r.kk; exact ⟨this.1, by show K.k ≤ _; omega⟩, by show K.seq ≤ _; omega, by have := r.syncs; exact ⟨by show 0 ≤ K.syncs + 1; omega, by show K.syncs + 1 ≤ _; omega⟩⟩
  · have hco := pend_ok r.ok ⟨hseq.1, by omega⟩ hp (by rw [← pendL_length]; exact hl)
    have hR : commitR K.S K.seq K.k (pendL K) = ⟨calm (doneS s K.seq (pendL K) (pendT K)) (n + (2 * (pendT K).length + 2)), K.seq + 1, true, K.k + 1, 0⟩ := by
      rw [e]
      exact warm_commit hco s0 s hlen d n K.k
    have hdl : (doneS s K.seq (pendL K) (pendT K)).length = s.length := CommitOk.done_len _ _ _ _
    obtain ⟨a1, a2, a3⟩ := key _ hR rfl (by show (doneS s K.seq (pendL K) (pendT K)).length = K.S.now.length; rw [hdl, e]; rfl) rfl
    refine ⟨a1, ?_, a3, by rw [a2]; rfl, by rw [a2], by rw [a2], fun _ => ⟨by rw [a2, e]; rfl, by rw [a2]; rfl⟩⟩
    have hl2 : (pendT K).length ≤ 110 := by rw [← pendL_length]; exact hl
    rw [a2]
    refine ⟨⟨_, _, [], _, rfl, held_next hs hco (by omega), by omega, by simp⟩, calm_ok _ _, ⟨?_, hdim, r.ok.zero, r.ok.one, fun t ht => absurd rfl ht⟩, r.hok, rfl, r.bad, ?_, ?_, ?_⟩
    · show (doneS s K.seq (pendL K) (pendT K)).length = N
      rw [hdl, hlen]
    · have := r.kk; exact ⟨by show 0 ≤ K.k + 1; omega, by show K.k + 1 ≤ _; omega⟩
    · show K.seq + 1 ≤ _; omega
    · have := r.syncs; exact ⟨by show 0 ≤ K.syncs + 1; omega, by show K.syncs + 1 ≤ _; omega⟩
end
def DSt (w0 w : World) (g gd m : Nat) (K : KD) : Prop := ∃ P, DeskAt w P g gd m K ∧ (∀ b ∈ P, w0.heap.size ≤ b) ∧ Below w0.heap.size w0 w
section
variable {w0 w w' : World} {g gd m N : Nat} {K K' : KD} {h : List ByteArray} {c : Nat}
theorem DSt.turn {P : List Nat} {m' : Nat} (h2 : ∀ b ∈ P, w0.heap.size ≤ b) (h3 : Below w0.heap.size w0 w) (ht : DTurns P g gd m' K' w w') : DSt w0 w' g gd m' K' := by
  obtain ⟨P', a1, a2, a3⟩ := ht
  refine ⟨P', a1, fun b hb => ?_, h3.trans (a3.below h2 h3.size)⟩
  rcases a2 b hb with h | h
  · exact h2 b h
  · exact Nat.le_trans h3.size h
theorem DSt.below (s : DSt w0 w g gd m K) (hb : Below w.heap.size w w') : DSt w0 w' g gd m K := by
  obtain ⟨P, h1, h2, h3⟩ := s
  exact ⟨P, h1.below hb, h2, h3.trans (hb.mono h3.size)⟩
theorem DSt.at0 (s : DSt w0 w g gd m K) : Below w0.heap.size w0 w := s.choose_spec.2.2
theorem DSt.of_open {O : List Nat} (h2 : ∀ b ∈ O, w0.heap.size ≤ b) (h3 : Below w0.heap.size w0 w) (ho : KOpen O g gd m K w w') : DSt w0 w' g gd m K := by
  obtain ⟨P', a1, a2, a3, a4⟩ := ho
  refine ⟨P', a1, fun b hb => ?_, h3.trans (a3.below h2 h3.size)⟩
  rcases a2 b hb with h | h
  · exact h2 b h
  · exact Nat.le_trans h3.size h
theorem DSt.wal (s : DSt w0 w g gd m K) : ∃ gw, w.cell? ⟨g, 0, none⟩ = some (.pointer (some ⟨gw, 0, none⟩)) ∧ Blk w gw 101 (walC gd K.seq K.up K.k) ∧ g < w.heap.size ∧ ∃ O, DiskAt w O gd K.S := by
  obtain ⟨P, ⟨gw, gm, gr, O, rfl, hd⟩, h2, h3⟩ := s
  exact ⟨gw, by have := hd.blk.cell 0; simpa [deskC] using this, hd.wal, hd.blk.lt, O, hd.disk⟩
theorem Run11.with (r : Run11 N K h c) {H' : List Int} {F' : Int → ByteArray} (ho : HOk (N - 111) H') (h0 : (0 : Int) ∈ H') (h1 : (1 : Int) ∈ H') (hu : ∀ t, F' t ≠ .empty → t ∈ H' ∧ t ≠ 1 ∧ (F' t).size = 256) : Run11 N { K with H := H', F := F' } h c :=
  ⟨r.still, r.sok, ⟨r.ok.len, r.ok.dim, h0, h1, hu⟩, ho, r.up, r.bad, r.kk, r.seq, r.syncs⟩
theorem updF_used {F : Int → ByteArray} {H H' : List Int} {t : Int} {x : ByteArray} (hu : ∀ t, F t ≠ .empty → t ∈ H ∧ t ≠ 1 ∧ (F t).size = 256) (hH : ∀ z ∈ H, z ∈ H') (ht : t ∈ H') (h1 : t ≠ 1) (hx : x.size = 256) : ∀ u, updF F t x u ≠ .empty → u ∈ H' ∧ u ≠ 1 ∧ (updF F t x u).size = 256 := by
  intro u he
  by_cases e : u = t
  · subst e
    rw [updF_same]
    exact ⟨ht, h1, hx⟩
  · rw [updF_other _ _ e] at he ⊢
    obtain ⟨a1, a2, a3⟩ := hu u he
    exact ⟨hH _ a1, a2, a3⟩
theorem Run11.new (r : Run11 N K h c) {k : Nat} (hk : Least K.H k) (hlt : k < N - 111) {x : ByteArray} (hx : x.size = 256) : Run11 N (newK K k x) h c := by
  have hm : ∀ z ∈ K.H, z ∈ putL (k : Int) K.H := fun z hz => (putL_mem _ _ _).2 (.inr hz)
  exact r.with (r.hok.put (by omega) (by omega)) (hm _ r.ok.zero) (hm _ r.ok.one) (updF_used r.ok.used hm ((putL_mem _ _ _).2 (.inl rfl)) (fun e => hk.not (by rw [e]; exact r.ok.one)) hx)
theorem Run11.set (r : Run11 N K h c) (t : Int) (x : ByteArray) : Run11 N (setK K t x) h c := by
  unfold setK
  split
  · exact r
  · rename_i e
    split
    · rename_i hx
      have ht : t ∈ K.H := by
        rcases Classical.em (t ∈ K.H) with h | h
        · exact h
        · exact absurd (.inr h) e
      exact r.with (F' := updF K.F t x) r.hok r.ok.zero r.ok.one (updF_used r.ok.used (fun _ h => h) ht (fun h => e (.inl h)) hx)
    · exact r
theorem dst_new (s : DSt w0 w g gd m K) (r : Run11 N K h c) (hm : m < 1000000) {k : Nat} (hk : Least K.H k) (hlt : k < N - 111) {x : ByteArray} (hx : x.size = 256) :
    Calls Tryz.prog 13 #[.pointer (some ⟨g, 0, none⟩), .string x] w fun e w' => e = .returned (.tuple #[.int .i64 (k : Int), .int .i64 0]) ∧ DSt w0 w' g gd (m + 1) (newK K k x) := by
  obtain ⟨P, h1, h2, h3⟩ := s
  refine (knew_any x h1 r.bad hm (by omega) hk).mono ?_
  rintro e w' (⟨hn, _⟩ | ⟨_, hn, _⟩ | ⟨_, _, rfl, ht⟩)
  · exact absurd hx hn
  · have := r.ok.len; omega
  · exact ⟨rfl, DSt.turn h2 h3 ht⟩
theorem dst_sync (s : DSt w0 w g gd m K) (r : Run11 N K h c) (hc : c ≤ 1000) (hm : m < 1000000) :
    Calls Tryz.prog 23 #[.pointer (some ⟨g, 0, none⟩)] w fun e w' => e = .returned (.int .i64 (syncE K)) ∧ DSt w0 w' g gd m (syncK K) := by
  obtain ⟨P, h1, h2, h3⟩ := s
  refine (ksync_any h1 r.ok (r.krun hc) hm).mono ?_
  rintro e w' ⟨rfl, ht⟩
  exact ⟨rfl, DSt.turn h2 h3 ht⟩
theorem dst_dirty (s : DSt w0 w g gd m K) (r : Run11 N K h c) (hm : m < 1000000) :
    Calls Tryz.prog 34 #[.pointer (some ⟨g, 0, none⟩)] w fun e w' => ∃ A c, e = .returned (.slice A (pendT K).length c) ∧ w'.ownsRow w.heap.size 3 1 (.slice A (pendT K).length c) (pendT K).length ((pendT K).map (Value.int .i64)) ∧ Below w.heap.size w w' := by
  obtain ⟨P, h1, h2, h3⟩ := s
  exact kdirty_any h1 r.ok hm
theorem dst_get (s : DSt w0 w g gd m K) (r : Run11 N K h c) {t : Nat} (ht : t < N - 111) :
    Calls Tryz.prog 33 #[.pointer (some ⟨g, 0, none⟩), .int .i64 (t : Int)] w fun e w' => e = .returned (.tuple #[.string (homeG K h t), .int .i64 0]) ∧ Below w.heap.size w w' := by
  obtain ⟨P, h1, h2, h3⟩ := s
  have hl := r.ok.len
  have hd := r.ok.dim
  have := kget_any (t : Int) h1 r.bad r.up (by omega) (by omega) r.small (r.fsize _) (by unfold I64; omega)
  rw [r.get ht] at this
  exact this
theorem dst_size (s : DSt w0 w g gd m K) (r : Run11 N K h c) {gw : Nat} (hc : w.cell? ⟨g, 0, none⟩ = some (.pointer (some ⟨gw, 0, none⟩))) :
    Calls Tryz.prog 35 #[.pointer (some ⟨gw, 0, none⟩)] w fun e w' => e = .returned (.int .i64 ((N : Int) - 111)) ∧ w = w' := by
  obtain ⟨gw', e1, e2, _, O, e3⟩ := s.wal
  rw [hc] at e1
  injection e1 with e1
  injection e1 with e1
  injection e1 with e1
  injection e1 with e1
  subst e1
  have hd := r.ok.dim
  exact wsize_any (n := N) e2 e3 r.ok.len (by omega) (by omega)
theorem fmt_start {S : DS} {q : Int} (hs : Held N q h S.now) {s0 s : List ByteArray} {d : List (Nat × ByteArray)} {n : Nat} (hS : S = warm s0 s d n) (hok : S.Ok) (hq : q ≤ c) (hn : n ≤ 1000 * c) (hd : d.length ≤ 1) : Run11 N (fmtK S q) h c := by
  refine ⟨⟨s0, s, d, n, hS, ?_, hn, hd⟩, hok, fmt_ok hs, ?_, rfl, rfl, by simp [fmtK], hq, by simp [fmtK]⟩
  · rw [hS] at hs
    exact hs
  · have := hs.dim
    exact ⟨by simp [fmtK], fun x hx => by
      simp only [fmtK, List.mem_cons, List.not_mem_nil, or_false] at hx
      rcases hx with rfl | rfl <;> omega⟩
theorem fmt_pend {S : DS} {q : Int} (hs : Held N q h S.now) : pendT (fmtK S q) = [0, 1] := by
  have hd := hs.dim
  have hl := hs.len
  refine strict_ext _ _ (pendT_rise _) (by simp) fun t => ?_
  rw [pendT_mem]
  simp only [List.mem_cons, List.not_mem_nil, or_false]
  constructor
  · rintro ⟨_, h2⟩
    unfold dirtyP at h2
    split at h2
    · rename_i e; exact .inr e
    · have h3 := of_decide_eq_true h2
      by_cases e : t = 0
      · exact .inl e
      · exact absurd (show (fmtK S q).F t = .empty from updF_other (fun _ => .empty) (zeroB 256) e) h3
  · have hlen : (fmtK S q).S.now.length = N := hl
    rintro (rfl | rfl)
    · refine ⟨by omega, ?_⟩
      unfold dirtyP
      rw [if_neg (by decide)]
      exact decide_eq_true (fun e => by have := zeroB_size 256; rw [← updF_same (fun _ => .empty) 0 (zeroB 256)] at this; rw [show updF (fun _ => ByteArray.empty) 0 (zeroB 256) 0 = ByteArray.empty from e] at this; exact absurd this (by decide))
    · refine ⟨by omega, ?_⟩
      unfold dirtyP
      rw [if_pos rfl]
      exact decide_eq_true (fun e => by have h3 := roomS_size (fmtK S q); rw [e, show (fmtK S q).kept = .empty from rfl] at h3; exact absurd h3 (by decide))
end
end Go.Proofs.YtiagofgcinlnhaaGreatDoor
