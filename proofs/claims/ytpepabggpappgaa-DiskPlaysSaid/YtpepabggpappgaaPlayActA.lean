/-
  An act on a disk, and on the document's: Flush, Restore, nothing. No statement is proved here.
-/
import Derived.Test.YtpepabggpappgaaPlayPure
namespace Go.Proofs.Ytpepabggpappgaa
open Go.RowKit

theorem PlainIs.restore {w : World} {B g : Nat} {vn vs vw : Value} {nv : Int} {ka : Option Addr} {km kc : Nat} {S : DS} (h : PlainIs w B g vn vs vw nv ka km kc S) :
    PlainIs (w.setCell ⟨g, 3, none⟩ (.bool false)) B g vn vs vw nv ka km kc S.restore := by
  have ha := h.apart
  simp only [List.nodup_cons, List.mem_append, not_or] at ha
  have hk : Keep [g] w (w.setCell ⟨g, 3, none⟩ (.bool false)) := (Keep.refl _ _).put (.inl (by simp)) _ _
  refine ⟨h.blk.put 3 _, row_keep h.now hk ?_, row_keep h.safe hk ?_, row_keep h.dirty hk ?_, fun hA => ⟨(h.arm hA).1, (h.arm hA).2.1, (h.arm hA).2.2.keep hk (by intro b hb; rw [List.mem_singleton.1 hb]; exact h.low)⟩, h.apart, h.low⟩
  · intro k e hm; exact ha.1.1 (by rw [e, ← List.mem_singleton.1 hm]; simp)
  · intro k e hm; exact ha.1.2.1 (by rw [e, ← List.mem_singleton.1 hm]; simp)
  · intro k e hm; exact ha.1.2.2 (by rw [e, ← List.mem_singleton.1 hm]; simp)

set_option maxRecDepth 100000 in
set_option maxHeartbeats 2000000 in
theorem act2_any {w : World} {B : Nat} {O P : List Nat} {g p k : Nat} {S : DS} (d : OpD) (hk : d.kind = 2) (h : Two w B O P g p S S) (hf : S.Fit k) :
    Calls Try.prog 10 #[.pointer (some ⟨g, 0, none⟩), .pointer (some ⟨p, 0, none⟩), .agg d.cells] w fun e w' => e = .returned (.bool true) ∧ PairTurns B (O ++ P) g p S.flush w w' := by
  obtain ⟨kind, a, wa, wc, ws, own, la, lc, ls⟩ := d
  simp only at hk
  subst hk
  unfold OpD.cells
  simp only
  have HA : Hid (∀ o : Obj, Two (w.alloc o) B O P g p S S ∧ Below w.heap.size w (w.alloc o)) := Lib.hid (fun o => ⟨h.below ((Below.refl _ _).alloc (Nat.le_refl _) _), (Below.refl _ _).alloc (Nat.le_refl _) _⟩)
  have HF := Lib.hid hf
  clear h hf
  go_enter Try.func10, Try.ntmps10
  go_wp2_with fail
  refine (dflush_any (HA.out _).1.d HF.out.ok HF.out.left).mono ?_
  rintro e w1 ⟨rfl, hT⟩
  obtain ⟨O', hT1, hT2, hT3⟩ := (HA.out _).1.first hT
  have HT := Lib.hid hT
  have HP := Lib.hid hT1.p
  clear hT hT1 hT2 hT3
  obtain ⟨ee, hee⟩ : ∃ ee, ee = S.errF := ⟨_, rfl⟩
  have HPF := Lib.hid (pflush_any HP.out HF.out.ok HF.out.left (by rw [← HF.out.ok.len]; exact ⟨HF.out.len.1, by have := HF.out.len.2; omega⟩))
  rw [← hee] at HPF
  rw [← hee]
  clear hee
  go_wp2_with fail
  refine HPF.out.mono ?_
  rintro e w2 ⟨rfl, hT2⟩
  go_wp2_with fail
  go_ret
  exact ⟨rfl, ((HA.out _).1.both HT.out (fun _ => hT2)).after (HA.out _).2⟩

set_option maxRecDepth 100000 in
set_option maxHeartbeats 2000000 in
theorem act4_any {w : World} {B : Nat} {O P : List Nat} {g p : Nat} {S : DS} (d : OpD) (hk : d.kind = 4) (h : Two w B O P g p S S) :
    Calls Try.prog 10 #[.pointer (some ⟨g, 0, none⟩), .pointer (some ⟨p, 0, none⟩), .agg d.cells] w fun e w' => e = .returned (.bool true) ∧ PairTurns B (O ++ P) g p S.restore w w' := by
  obtain ⟨kind, a, wa, wc, ws, own, la, lc, ls⟩ := d
  simp only at hk
  subst hk
  unfold OpD.cells
  simp only
  have HA : Hid (∀ o : Obj, Two (w.alloc o) B O P g p S S ∧ Below w.heap.size w (w.alloc o)) := Lib.hid (fun o => ⟨h.below ((Below.refl _ _).alloc (Nat.le_refl _) _), (Below.refl _ _).alloc (Nat.le_refl _) _⟩)
  clear h
  go_enter Try.func10, Try.ntmps10
  go_wp2_with fail
  refine (drestore_any (HA.out _).1.d).mono ?_
  rintro e w1 ⟨rfl, hT⟩
  obtain ⟨O', hT1, hT2, hT3⟩ := (HA.out _).1.first hT
  have HT := Lib.hid hT
  have HP := Lib.hid hT1.p
  obtain ⟨vn, vs, vw, nv, ka, km, kc, hPe, hp⟩ := hT1.p
  have HPE := Lib.hid hPe
  have HPI := Lib.hid hp
  have c3 := hp.blk.cell 3
  have f3 := hp.blk.frozen 3
  have hpl := hp.blk.lt
  simp at c3
  clear hT hT1 hT2 hT3 hPe hp
  go_wp2_with fail
  go_ret
  refine ⟨rfl, ((HA.out _).1.both HT.out (fun _ => ?_)).after (HA.out _).2⟩
  refine ⟨P, ⟨vn, vs, vw, nv, ka, km, kc, HPE.out, HPI.out.restore⟩, fun b hb => .inl hb, (Keep.refl _ _).put (.inl (by rw [HPE.out]; simp)) _ _⟩

set_option maxRecDepth 100000 in
set_option maxHeartbeats 2000000 in
theorem act0_any {w : World} {B : Nat} {O P : List Nat} {g p : Nat} {S : DS} (d : OpD) (h1 : ¬ d.kind = 1) (h2 : ¬ d.kind = 2) (h3 : ¬ d.kind = 3) (h4 : ¬ d.kind = 4) (h5 : ¬ d.kind = 5) (h : Two w B O P g p S S) :
    Calls Try.prog 10 #[.pointer (some ⟨g, 0, none⟩), .pointer (some ⟨p, 0, none⟩), .agg d.cells] w fun e w' => e = .returned (.bool true) ∧ PairTurns B (O ++ P) g p S w w' := by
  obtain ⟨kind, a, wa, wc, ws, own, la, lc, ls⟩ := d
  simp only at h1 h2 h3 h4 h5
  unfold OpD.cells
  simp only
  have HA : Hid (∀ o : Obj, PairTurns B (O ++ P) g p S w (w.alloc o)) := Lib.hid (fun o => PairTurns.after ((Below.refl _ _).alloc (Nat.le_refl _) _) (PairTurns.refl (h.below ((Below.refl _ _).alloc (Nat.le_refl _) _)).pair))
  clear h
  go_enter Try.func10, Try.ntmps10
  go_wp2_with fail
  go_ret
  exact ⟨rfl, HA.out _⟩
end Go.Proofs.Ytpepabggpappgaa
