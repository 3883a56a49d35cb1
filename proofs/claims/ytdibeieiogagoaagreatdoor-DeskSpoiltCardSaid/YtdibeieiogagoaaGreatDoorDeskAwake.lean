/-
  The statements' first call on a desk, whose answer the document fixes. No statement is proved here.
-/
import Derived.Test.YtdibeieiogagoaaGreatDoorDeskCalm
namespace Go.Proofs.YtdibeieiogagoaaGreatDoor
open Go.RowKit

/-- The desk at g over the disk at gd, all of it made since w0. -/
def DSt (w0 w : World) (g gd m : Nat) (K : KD) : Prop := ∃ P, DeskAt w P g gd m K ∧ (∀ b ∈ P, w0.heap.size ≤ b) ∧ Below w0.heap.size w0 w
section
variable {w0 w w' : World} {g gd m N : Nat} {K K' : KD} {h : List ByteArray} {c : Nat}
theorem DSt.turn {P : List Nat} {m' : Nat} (h2 : ∀ b ∈ P, w0.heap.size ≤ b) (h3 : Below w0.heap.size w0 w) (ht : DTurns P g gd m' K' w w') : DSt w0 w' g gd m' K' := by
  obtain ⟨P', a1, a2, a3⟩ := ht
  refine ⟨P', a1, fun b hb => ?_, h3.trans (a3.below h2 h3.size)⟩
  rcases a2 b hb with h | h
  · exact h2 b h
  · exact Nat.le_trans h3.size h
theorem DSt.below (s : DSt w0 w g gd m K) (hb : Below w.heap.size w w') : DSt w0 w' g gd m K := by
  obtain ⟨P, h1, h2, h3⟩ := s
  exact ⟨P, h1.below hb, h2, h3.trans (hb.mono h3.size)⟩
theorem DSt.at0 (s : DSt w0 w g gd m K) : Below w0.heap.size w0 w := s.choose_spec.2.2
theorem DSt.of_open {O : List Nat} (h2 : ∀ b ∈ O, w0.heap.size ≤ b) (h3 : Below w0.heap.size w0 w) (ho : KOpen O g gd m K w w') : DSt w0 w' g gd m K := by
  obtain ⟨P', a1, a2, a3, a4⟩ := ho
  refine ⟨P', a1, fun b hb => ?_, h3.trans (a3.below h2 h3.size)⟩
  rcases a2 b hb with h | h
  · exact h2 b h
  · exact Nat.le_trans h3.size h
theorem DSt.wal (s : DSt w0 w g gd m K) : ∃ gw, w.cell? ⟨g, 0, none⟩ = some (.pointer (some ⟨gw, 0, none⟩)) ∧ Blk w gw 106 (walC gd K.seq K.up K.k) ∧ g < w.heap.size ∧ ∃ O, DiskAt w O gd K.S := by
  obtain ⟨P, ⟨gw, gm, gr, O, rfl, hd⟩, h2, h3⟩ := s
  exact ⟨gw, by have := hd.blk.cell 0; simpa [deskC] using this, hd.wal, hd.blk.lt, O, hd.disk⟩
theorem Run11.with (r : Run11 N K h c) {H' : List Int} {F' : Int → ByteArray} (ho : HOk (N - 111) H') (h0 : (0 : Int) ∈ H') (h1 : (1 : Int) ∈ H') (hu : ∀ t, F' t ≠ .empty → t ∈ H' ∧ t ≠ 1 ∧ (F' t).size = 256) : Run11 N { K with H := H', F := F' } h c :=
  ⟨r.still, r.sok, ⟨r.ok.len, r.ok.dim, h0, h1, hu⟩, ho, r.up, r.bad, r.kk, r.seq, r.syncs⟩
theorem updF_used {F : Int → ByteArray} {H H' : List Int} {t : Int} {x : ByteArray} (hu : ∀ t, F t ≠ .empty → t ∈ H ∧ t ≠ 1 ∧ (F t).size = 256) (hH : ∀ z ∈ H, z ∈ H') (ht : t ∈ H') (h1 : t ≠ 1) (hx : x.size = 256) : ∀ u, updF F t x u ≠ .empty → u ∈ H' ∧ u ≠ 1 ∧ (updF F t x u).size = 256 := by
  intro u he
  by_cases e : u = t
  · subst e
    rw [updF_same]
    exact ⟨ht, h1, hx⟩
  · rw [updF_other _ _ e] at he ⊢
    obtain ⟨a1, a2, a3⟩ := hu u he
    exact ⟨hH _ a1, a2, a3⟩
theorem Run11.new (r : Run11 N K h c) {k : Nat} (hk : Least K.H k) (hlt : k < N - 111) {x : ByteArray} (hx : x.size = 256) : Run11 N (newK K k x) h c := by
  have hm : ∀ z ∈ K.H, z ∈ putL (k : Int) K.H := fun z hz => (putL_mem _ _ _).2 (.inr hz)
  exact r.with (r.hok.put (by omega) (by omega)) (hm _ r.ok.zero) (hm _ r.ok.one) (updF_used r.ok.used hm ((putL_mem _ _ _).2 (.inl rfl)) (fun e => hk.not (by rw [e]; exact r.ok.one)) hx)
theorem Run11.set (r : Run11 N K h c) (t : Int) (x : ByteArray) : Run11 N (setK K t x) h c := by
  unfold setK
  split
  · exact r
  · rename_i e
    split
    · rename_i hx
      have ht : t ∈ K.H := by
        rcases Classical.em (t ∈ K.H) with h | h
        · exact h
        · exact absurd (.inr h) e
      exact r.with (F' := updF K.F t x) r.hok r.ok.zero r.ok.one (updF_used r.ok.used (fun _ h => h) ht (fun h => e (.inl h)) hx)
    · exact r
theorem dst_bad (s : DSt w0 w g gd m K) (r : Run11 N K h c) : Calls Tryz.prog 29 #[.pointer (some ⟨g, 0, none⟩)] w fun e w' => e = .returned (.int .i64 0) ∧ w' = w := by
  obtain ⟨P, h1, h2, h3⟩ := s
  have := kbad_any h1
  rw [r.bad] at this
  exact this
theorem dst_new (s : DSt w0 w g gd m K) (r : Run11 N K h c) (hm : m < 1000000) {k : Nat} (hk : Least K.H k) (hlt : k < N - 111) {x : ByteArray} (hx : x.size = 256) :
    Calls Tryz.prog 16 #[.pointer (some ⟨g, 0, none⟩), .string x] w fun e w' => e = .returned (.tuple #[.int .i64 (k : Int), .int .i64 0]) ∧ DSt w0 w' g gd (m + 1) (newK K k x) := by
  obtain ⟨P, h1, h2, h3⟩ := s
  refine (knew_any x h1 r.bad hm (by omega) hk).mono ?_
  rintro e w' (⟨hn, _⟩ | ⟨_, hn, _⟩ | ⟨_, _, rfl, ht⟩)
  · exact absurd hx hn
  · have := r.ok.len; omega
  · exact ⟨rfl, DSt.turn h2 h3 ht⟩
theorem dst_sync (s : DSt w0 w g gd m K) (r : Run11 N K h c) (hc : c ≤ 1000) (hm : m < 1000000) :
    Calls Tryz.prog 26 #[.pointer (some ⟨g, 0, none⟩)] w fun e w' => e = .returned (.int .i64 (syncE K)) ∧ DSt w0 w' g gd m (syncK K) := by
  obtain ⟨P, h1, h2, h3⟩ := s
  refine (ksync_any h1 r.ok (r.krun hc) hm).mono ?_
  rintro e w' ⟨rfl, ht⟩
  exact ⟨rfl, DSt.turn h2 h3 ht⟩
theorem dst_dirty (s : DSt w0 w g gd m K) (r : Run11 N K h c) (hm : m < 1000000) :
    Calls Tryz.prog 36 #[.pointer (some ⟨g, 0, none⟩)] w fun e w' => ∃ A c, e = .returned (.slice A (pendT K).length c) ∧ w'.ownsRow w.heap.size 3 1 (.slice A (pendT K).length c) (pendT K).length ((pendT K).map (Value.int .i64)) ∧ Below w.heap.size w w' := by
  obtain ⟨P, h1, h2, h3⟩ := s
  exact kdirty_any h1 r.ok hm
theorem dst_get (s : DSt w0 w g gd m K) (r : Run11 N K h c) {t : Nat} (ht : t < N - 111) :
    Calls Tryz.prog 37 #[.pointer (some ⟨g, 0, none⟩), .int .i64 (t : Int)] w fun e w' => e = .returned (.tuple #[.string (homeG K h t), .int .i64 0]) ∧ Below w.heap.size w w' := by
  obtain ⟨P, h1, h2, h3⟩ := s
  have hl := r.ok.len
  have hd := r.ok.dim
  have := kget_any (t : Int) h1 r.bad r.up (by omega) (by omega) r.small (r.fsize _) (by unfold I64; omega)
  rw [r.get ht] at this
  exact this
theorem dst_size (s : DSt w0 w g gd m K) (r : Run11 N K h c) {gw : Nat} (hc : w.cell? ⟨g, 0, none⟩ = some (.pointer (some ⟨gw, 0, none⟩))) :
    Calls Tryz.prog 46 #[.pointer (some ⟨gw, 0, none⟩)] w fun e w' => e = .returned (.int .i64 ((N : Int) - 111)) ∧ w = w' := by
  obtain ⟨gw', e1, e2, _, O, e3⟩ := s.wal
  rw [hc] at e1
  injection e1 with e1
  injection e1 with e1
  injection e1 with e1
  injection e1 with e1
  subst e1
  have hd := r.ok.dim
  exact wsize_any (n := N) e2 e3 r.ok.len (by omega) (by omega)

/-- Format, on a disk whose head may be read. -/
theorem fmt_start {S : DS} {q : Int} (hs : Held N q h S.now) {s0 s : List ByteArray} {d : List (Nat × ByteArray)} {n : Nat} (hS : S = warm s0 s d n) (hok : S.Ok) (hq : q ≤ c) (hn : n ≤ 1000 * c) (hd : d.length ≤ 1) : Run11 N (fmtK S q) h c := by
  refine ⟨⟨s0, s, d, n, hS, ?_, hn, hd⟩, hok, fmt_ok hs, ?_, rfl, rfl, by simp [fmtK], hq, by simp [fmtK]⟩
  · rw [hS] at hs
    exact hs
  · have := hs.dim
    exact ⟨by simp [fmtK], fun x hx => by
      simp only [fmtK, List.mem_cons, List.not_mem_nil, or_false] at hx
      rcases hx with rfl | rfl <;> omega⟩
theorem fmt_pend {S : DS} {q : Int} (hs : Held N q h S.now) : pendT (fmtK S q) = [0, 1] := by
  have hd := hs.dim
  have hl := hs.len
  refine strict_ext _ _ (pendT_rise _) (by simp) fun t => ?_
  rw [pendT_mem]
  simp only [List.mem_cons, List.not_mem_nil, or_false]
  constructor
  · rintro ⟨_, h2⟩
    unfold dirtyP at h2
    split at h2
    · rename_i e; exact .inr e
    · have h3 := of_decide_eq_true h2
      by_cases e : t = 0
      · exact .inl e
      · exact absurd (show (fmtK S q).F t = .empty from updF_other (fun _ => .empty) (zeroB 256) e) h3
  · have hlen : (fmtK S q).S.now.length = N := hl
    rintro (rfl | rfl)
    · refine ⟨by omega, ?_⟩
      unfold dirtyP
      rw [if_neg (by decide)]
      exact decide_eq_true (fun e => by have := zeroB_size 256; rw [← updF_same (fun _ => .empty) 0 (zeroB 256)] at this; rw [show updF (fun _ => ByteArray.empty) 0 (zeroB 256) 0 = ByteArray.empty from e] at this; exact absurd this (by decide))
    · refine ⟨by omega, ?_⟩
      unfold dirtyP
      rw [if_pos rfl]
      exact decide_eq_true (fun e => by have h3 := roomS_size (fmtK S q); rw [e, show (fmtK S q).kept = .empty from rfl] at h3; exact absurd h3 (by decide))
end
end Go.Proofs.YtdibeieiogagoaaGreatDoor

namespace Go.Proofs.YtdibeieiogagoaaGreatDoor
open Go.RowKit

theorem least_two : Least [0, 1] 2 := ⟨fun i hi => by
  rcases (show i = 0 ∨ i = 1 by omega) with rfl | rfl <;> simp, by simp⟩
/-- A desk on a new disk. -/
structure Fresh11 (N : Nat) (K : KD) (h : List ByteArray) : Prop where
  run : Run11 N K h 2
  H : K.H = [0, 1]
  F : K.F = fun _ => .empty
  pend : pendT K = []
  kept : K.kept = roomS K
  home : h = (List.replicate (N - 111) (zeroB 256)).set 1 (bs (roomT (N - 111) [0, 1]))
theorem fresh_desk {N : Nat} (hN : 140 ≤ N ∧ N ≤ 400) : syncE (fmtK (DS.fresh N (zeroB 256)) 0) = 0 ∧ ∃ h, Fresh11 N (syncK (fmtK (DS.fresh N (zeroB 256)) 0)) h := by
  have hs : Held N 0 (List.replicate (N - 111) (zeroB 256)) (DS.fresh N (zeroB 256)).now := headQ_zero N hN
  have r := fmt_start (c := 1) hs (s0 := List.replicate N (zeroB 256)) (s := List.replicate N (zeroB 256)) (d := []) (n := 0) rfl (DS.Ok.fresh _ _) (by omega) (by omega) (by simp)
  have hp := fmt_pend hs
  obtain ⟨a1, a2, a3, a4, a5, a6, a7⟩ := r.sync (by omega) (by rw [pendL_length, hp]; decide)
  refine ⟨a1, _, a2, by rw [a4]; rfl, a6, a3, ?_, ?_⟩
  · rw [a5]
    unfold roomS
    rw [a4, a2.ok.len, r.ok.len]
  have e1 : pendL (fmtK (DS.fresh N (zeroB 256)) 0) = [(0, zeroB 256), (1, bs (roomT (N - 111) [0, 1]))] := by
    unfold pendL
    rw [hp]
    have g0 : gF (fmtK (DS.fresh N (zeroB 256)) 0) 0 = zeroB 256 := by unfold gF; rw [if_neg (by decide)]; exact updF_same (fun _ => .empty) 0 (zeroB 256)
    have g1 : gF (fmtK (DS.fresh N (zeroB 256)) 0) 1 = bs (roomT (N - 111) [0, 1]) := by
      unfold gF
      rw [if_pos rfl]
      unfold roomS
      have : (fmtK (DS.fresh N (zeroB 256)) 0).S.now.length = N := by show (List.replicate N (zeroB 256)).length = N; simp
      rw [this]
      rfl
    simp [g0, g1]
  rw [e1]
  clear e1 a1 a2 a3 a4 a5 a6 a7 hp r hs
  generalize zeroB 256 = z
  show ((List.replicate (N - 111) z).set 0 z).set 1 _ = _
  congr 1
  apply List.ext_getElem?
  intro i
  by_cases hi : i = 0
  · subst hi
    rw [List.getElem?_set_self (by simp; omega), List.getElem?_replicate, if_pos (by omega)]
  · rw [List.getElem?_set_ne (fun e => hi e.symm)]
/-- disk.New and Format. -/
theorem make_any {N : Nat} (hN : 140 ≤ N ∧ N ≤ 400) (w0 w : World) (hb : Below w0.heap.size w0 w) {gd : Nat} {O : List Nat} (hd : DiskAt w O gd (DS.fresh N (zeroB 256))) (hO : ∀ b ∈ O, w0.heap.size ≤ b) :
    Calls Tryz.prog 10 #[.pointer (some ⟨gd, 0, none⟩)] w fun e w' => ∃ g h, e = .returned (.tuple #[.pointer (some ⟨g, 0, none⟩), .int .i64 0]) ∧ DSt w0 w' g gd 1 (syncK (fmtK (DS.fresh N (zeroB 256)) 0)) ∧ Fresh11 N (syncK (fmtK (DS.fresh N (zeroB 256)) 0)) h := by
  have hs : Held N 0 (List.replicate (N - 111) (zeroB 256)) (DS.fresh N (zeroB 256)).now := headQ_zero N hN
  obtain ⟨hE, h, hF⟩ := fresh_desk hN
  refine (kformat_go hs (DS.Ok.fresh _ _) (by show (0 : Nat) ≤ 100; omega) (by show (0 : Nat) < _; omega) (by show (0 : Nat) < _; omega) hE (kany_ok (open_held hd rfl hs))).mono ?_
  rintro e w' ⟨g, rfl, ho⟩
  exact ⟨g, h, rfl, DSt.of_open hO hb ho, hF⟩

/-- With sector 2 taken: the Room is another one. -/
theorem pend_new {N : Nat} {K : KD} {h : List ByteArray} (hF : Fresh11 N K h) {x : ByteArray} (hx : x.size = 256) (hN : 114 ≤ N ∧ N ≤ 400): pendT (newK K 2 x) = [1, 2] := by
  have r := hF.run.new (k := 2) (by rw [hF.H]; exact least_two) (by omega) hx
  have hl := r.ok.len
  refine strict_ext _ _ (pendT_rise _) (by simp) fun t => ?_
  rw [pendT_mem]
  simp only [List.mem_cons, List.not_mem_nil, or_false]
  constructor
  · rintro ⟨_, h2⟩
    unfold dirtyP at h2
    split at h2
    · rename_i e; exact .inl e
    · have h3 := of_decide_eq_true h2
      by_cases e : t = 2
      · exact .inr e
      · refine absurd ?_ h3
        show updF K.F ((2 : Nat) : Int) x t = .empty
        rw [updF_other _ _ (by simpa using e), hF.F]
  · rintro (rfl | rfl)
    · refine ⟨by rw [hl]; omega, ?_⟩
      unfold dirtyP
      rw [if_pos rfl]
      refine decide_eq_true (fun e => ?_)
      have e2 : roomS (newK K 2 x) = roomS K := e.trans hF.kept
      unfold roomS at e2
      have e3 := roomT_inj r.hok hF.run.hok (by omega) (by omega) (by have := bs_inj e2; rw [hl, hF.run.ok.len] at this; exact this)
      rw [show (newK K 2 x).H = putL 2 K.H from rfl, hF.H] at e3
      exact absurd e3 (by decide)
    · refine ⟨by rw [hl]; omega, ?_⟩
      unfold dirtyP
      rw [if_neg (by decide)]
      refine decide_eq_true (fun e => ?_)
      have e2 : updF K.F ((2 : Nat) : Int) x 2 = .empty := e
      rw [show (2 : Int) = ((2 : Nat) : Int) from rfl, updF_same] at e2
      rw [e2] at hx
      exact absurd hx (by decide)

set_option maxRecDepth 100000 in
set_option maxHeartbeats 8000000 in
theorem alive11_any (w : World) : Calls Tryz.prog 8 #[] w fun e w' => e = .returned (.bool true) ∧ Below w.heap.size w w' := by
  obtain ⟨X, hX⟩ : ∃ X, X = fillB ⟨#[120]⟩ := ⟨_, rfl⟩
  have HXS : Hid (X.size = 256) := Lib.hid (by rw [hX]; exact fillB_size _)
  have HFI : Hid (∀ w1, Calls Tryz.prog 13 #[.string ⟨#[120]⟩] w1 fun e w' => e = .returned (.string X) ∧ Below w1.heap.size w1 w') := Lib.hid (fun w1 => by rw [hX]; exact fill_any _ w1 (by decide))
  clear hX
  have HN := Lib.hid (dnew_yes 150 150 w rfl (by omega) (by omega))
  have HMK : Hid (∀ (w1 : World) (gd : Nat) (O : List Nat), DiskAt w1 O gd (DS.fresh 150 (zeroB 256)) → (∀ b ∈ O, w.heap.size ≤ b) → Below w.heap.size w w1 → Calls Tryz.prog 10 #[.pointer (some ⟨gd, 0, none⟩)] w1 fun e w' => ∃ g K h, e = .returned (.tuple #[.pointer (some ⟨g, 0, none⟩), .int .i64 0]) ∧ DSt w w' g gd 1 K ∧ Fresh11 150 K h) := Lib.hid (fun w1 gd O hd hO hb => (make_any (by omega) w w1 hb hd hO).mono (fun e w' ⟨g, h, he, hs, hf⟩ => ⟨g, _, h, he, hs, hf⟩))
  go_enter Tryz.func8, Tryz.ntmps8
  go_wp2_with fail
  refine HN.out.mono ?_
  rintro e w1 ⟨gd, O, rfl, hd, hO, hb1⟩
  have HF1 := Lib.hid (HMK.out w1 gd O hd hO hb1)
  clear hd hO hb1 HMK HN
  go_wp2_with fail
  refine HF1.out.mono ?_
  rintro e w2 ⟨g, K, h, rfl, hs2, hf⟩
  have HS2 := Lib.hid hs2
  have HF := Lib.hid hf
  obtain ⟨gw, c0, -, -, -⟩ := hs2.wal
  clear hs2 hf HF1
  go_wp2_with fail
  refine (HFI.out w2).mono ?_
  rintro e w3 ⟨rfl, hb3⟩
  have HS3 := Lib.hid (HS2.out.below hb3)
  clear hb3 HS2 HFI c0
  have HNW := Lib.hid (dst_new HS3.out HF.out.run (by omega) (k := 2) (by rw [HF.out.H]; exact least_two) (by omega) HXS.out)
  go_wp2_with fail
  refine HNW.out.mono ?_
  rintro e w4 ⟨rfl, hs4⟩
  have HS4 := Lib.hid hs4
  have HR4 : Hid (Run11 150 (newK K 2 X) h 2) := Lib.hid (HF.out.run.new (k := 2) (by rw [HF.out.H]; exact least_two) (by omega) HXS.out)
  have HP4 := Lib.hid (pend_new HF.out HXS.out (by omega))
  have HG4 : Hid (homeG (newK K 2 X) h 2 = X) := Lib.hid (by
    have e : (newK K 2 X).F ((2 : Nat) : Int) = X := updF_same K.F ((2 : Nat) : Int) X
    unfold homeG
    rw [e, if_pos (size_empty HXS.out)])
  have HGT : Hid (Calls Tryz.prog 37 #[.pointer (some ⟨g, 0, none⟩), .int .i64 2] w4 fun e w' => e = .returned (.tuple #[.string X, .int .i64 0]) ∧ Below w4.heap.size w4 w') := Lib.hid (by have := dst_get HS4.out HR4.out (t := 2) (by omega); rw [HG4.out] at this; exact this)
  obtain ⟨K4, hK4⟩ : ∃ K4, K4 = newK K 2 X := ⟨_, rfl⟩
  rw [← hK4] at HS4 HR4 HP4
  clear hs4 HNW HS3 HG4 hK4
  go_wp2_with fail
  refine HGT.out.mono ?_
  rintro e w5 ⟨rfl, hb5⟩
  have HS5 := Lib.hid (HS4.out.below hb5)
  have HD5 := Lib.hid (dst_dirty HS5.out HR4.out (by omega))
  rw [HP4.out] at HD5
  clear hb5 HGT HS4
  go_wp2_with fail
  refine HD5.out.mono ?_
  rintro e w6 ⟨A, c, rfl, hrow, hb6⟩
  have HS6 := Lib.hid (HS5.out.below hb6)
  obtain ⟨p, hp⟩ : ∃ p, A = some ⟨p, 0, none⟩ := by
    rcases hrow.2 with ⟨h0, _⟩ | ⟨g, cap, cur, hv, _⟩
    · injection h0 with _ e _; simp at e
    · injection hv with e _ _; exact ⟨g, e⟩
  subst hp
  have d0 : w6.cell? ⟨p, 0, none⟩ = some (.int .i64 1) := row_cell hrow (i := 0) rfl
  have d1 : w6.cell? ⟨p, 1, none⟩ = some (.int .i64 2) := row_cell hrow (i := 1) rfl
  have HSY := Lib.hid (dst_sync HS6.out HR4.out (by omega) (by omega))
  have HRS := Lib.hid (HR4.out.sync (by omega) (by rw [pendL_length, HP4.out]; decide))
  rw [HRS.out.1] at HSY
  clear hrow hb6 HD5 HS5
  go_wp2_with (go_at_call 26; refine HSY.out.mono ?_; rintro e w7 ⟨rfl, hs7⟩; have HS7 := Lib.hid hs7; obtain ⟨gw7, c7, -, -, -⟩ := hs7.wal; clear hs7)
  have HR7 := Lib.hid HRS.out.2.1
  have HSZ : Hid (Calls Tryz.prog 46 #[.pointer (some ⟨gw7, 0, none⟩)] w7 fun e w' => e = .returned (.int .i64 39) ∧ w7 = w') := Lib.hid (dst_size HS7.out HR7.out c7)
  have HD7 := Lib.hid (dst_dirty HS7.out HR7.out (by omega))
  rw [HRS.out.2.2.1] at HD7
  clear HRS HSY c7
  refine HSZ.out.mono ?_
  rintro e w8 ⟨rfl, rfl⟩
  go_wp2_with fail
  refine HD7.out.mono ?_
  rintro e w9 ⟨A, c', rfl, -, hb9⟩
  have HB9 : Hid (Below w.heap.size w w9) := Lib.hid (HS7.out.at0.trans (hb9.mono HS7.out.at0.size))
  clear hb9 HD7
  go_wp2_with fail
  go_ret
  exact ⟨rfl, HB9.out⟩
end Go.Proofs.YtdibeieiogagoaaGreatDoor
