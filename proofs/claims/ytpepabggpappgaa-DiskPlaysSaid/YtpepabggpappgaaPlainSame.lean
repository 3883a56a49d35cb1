/-
  Is all of a disk what the document's has? No statement is proved here.
-/
import Derived.Test.YtpepabggpappgaaDiskTwin
namespace Go.Proofs.Ytpepabggpappgaa
open Go.RowKit

/-- What a reader of both finds, whatever was made since. -/
theorem same_cells {w : World} {B : Nat} {P : List Nat} {p : Nat} {S : DS} (k : PlainAt w B P p S) (hn : 0 < S.now.length) :
    ∃ gn cn pw cw, ∀ w', Below w.heap.size w w' → w'.cell? ⟨p, 0, none⟩ = some (.slice (some ⟨gn, 0, none⟩) S.now.length cn) ∧ w'.cell? ⟨p, 2, none⟩ = some (.slice pw S.dirty.length cw) ∧ w'.cell? ⟨p, 3, none⟩ = some (.bool (!S.on)) ∧ w'.cell? ⟨p, 7, none⟩ = some (.int .i64 (S.writes : Int)) ∧
      ∀ (j : Nat) (x : ByteArray), S.now[j]? = some x → w'.cell? ⟨gn, j, none⟩ = some (.string x) := by
  obtain ⟨vn, vs, vw, nv, ka, km, kc, -, h⟩ := k
  obtain ⟨gn, cn, rfl, -, -⟩ := h.now.form hn
  obtain ⟨pw, cw, rfl, -⟩ := row_slice h.dirty
  refine ⟨gn, cn, pw, cw, fun w' hb => ?_⟩
  have hk : PlainIs w' B p _ vs _ nv ka km kc S := h.far (O2 := []) (Keep.of_below hb) (by simp) (by simp)
  have c0 := hk.blk.cell 0
  have c2 := hk.blk.cell 2
  have c3 := hk.blk.cell 3
  have c7 := hk.blk.cell 7
  simp at c0 c2 c3 c7
  exact ⟨c0, c2, c3, c7, fun j x hx => row_cell hk.now (map_get hx)⟩

set_option maxRecDepth 100000 in
set_option maxHeartbeats 4000000 in
theorem psame_any {w : World} {B : Nat} {O P : List Nat} {g p : Nat} {S : DS} (at_ : Int) (h : DiskAt w O g S) (k : PlainAt w B P p S) (hz : ∀ x ∈ S.now, x.size ≤ 100000) (hn : 0 < S.now.length ∧ S.now.length ≤ 100000) :
    Calls Try.prog 11 #[.pointer (some ⟨g, 0, none⟩), .pointer (some ⟨p, 0, none⟩), .int .i64 at_] w fun e w' => e = .returned (.bool true) ∧ Below w.heap.size w w' := by
  obtain ⟨gn, cn, pw, cw, hc⟩ := same_cells k hn.1
  have HC := Lib.hid hc
  have HN := Lib.hid hn
  have HON : Hid (∀ n, Calls Try.prog 19 #[.pointer (some ⟨g, 0, none⟩)] (w.drewN n) fun e w' => e = .returned (.bool S.on) ∧ w' = w.drewN n) := Lib.hid (fun n => (don_any (w := w.drewN n) (h.kept fun _ _ => rfl)).mono fun e w' ⟨h1, h2⟩ => ⟨h1, h2.symm⟩)
  have HSZ : Hid (∀ n, Calls Try.prog 20 #[.pointer (some ⟨g, 0, none⟩)] (w.drewN n) fun e w' => e = .returned (.int .i64 (S.now.length : Int)) ∧ w' = w.drewN n) := Lib.hid (fun n => (dsize_any (w := w.drewN n) (h.kept fun _ _ => rfl)).mono fun e w' ⟨h1, h2⟩ => ⟨h1, h2.symm⟩)
  have HDI : Hid (∀ n, Calls Try.prog 35 #[.pointer (some ⟨g, 0, none⟩)] (w.drewN n) fun e w' => e = .returned (.int .i64 (S.dirty.length : Int)) ∧ w' = w.drewN n) := Lib.hid (fun n => (ddirty_any (w := w.drewN n) (h.kept fun _ _ => rfl)).mono fun e w' ⟨h1, h2⟩ => ⟨h1, h2.symm⟩)
  have HWR : Hid (∀ n, Calls Try.prog 36 #[.pointer (some ⟨g, 0, none⟩)] (w.drewN n) fun e w' => e = .returned (.int .i64 (S.writes : Int)) ∧ w' = w.drewN n) := Lib.hid (fun n => (dwrites_any (w := w.drewN n) (h.kept fun _ _ => rfl)).mono fun e w' ⟨h1, h2⟩ => ⟨h1, h2.symm⟩)
  have HRD : Hid (∀ (at_ : Int) w', Below w.heap.size w w' → Calls Try.prog 17 #[.pointer (some ⟨g, 0, none⟩), .int .i64 at_] w' fun e w'' => e = .returned (.tuple #[.string (S.read at_), .int .i64 (S.errR at_)]) ∧ Below w.heap.size w w'') := Lib.hid (fun at_ w' hb => (dread_any at_ (h.below hb) hz).mono fun e w'' ⟨h1, h2⟩ => ⟨h1, hb.trans (Below.mono h2 hb.size)⟩)
  obtain ⟨k0, k2, k3, k7, -⟩ := hc w (Below.refl _ _)
  obtain ⟨ln, hln⟩ : ∃ ln, ln = S.now.length := ⟨_, rfl⟩
  obtain ⟨ld, hld⟩ : ∃ ld, ld = S.dirty.length := ⟨_, rfl⟩
  obtain ⟨sw, hsw⟩ : ∃ sw : Int, sw = (S.writes : Int) := ⟨_, rfl⟩
  rw [← hln] at k0 HSZ
  rw [← hld] at k2 HDI
  rw [← hsw] at k7 HWR
  have HL := Lib.hid hln
  have hl1 : (ln : Int) ≤ 100000 := by omega
  clear hc h k hz hn hln hld hsw
  by_cases ho : S.on = true
  · have ho2 := ho
    rw [ho2] at k3 HON
    have HO := Lib.hid ho2
    have HC3 : Hid (∀ w', Below w.heap.size w w' → w'.cell? ⟨p, 0, none⟩ = some (.slice (some ⟨gn, 0, none⟩) ln cn) ∧ w'.cell? ⟨p, 3, none⟩ = some (.bool false)) := Lib.hid (fun w' hb => by
      obtain ⟨q0, _, q3, _⟩ := HC.out w' hb
      rw [HO.out] at q3
      rw [← HL.out] at q0
      exact ⟨q0, q3⟩)
    clear ho ho2
    go_enter Try.func11, Try.ntmps11
    go_wp2_with fail
    go_quiet (first | (go_at_call 19; with_reducible refine Calls.quiet_of_same (HON.out _)) | (go_at_call 20; with_reducible refine Calls.quiet_of_same (HSZ.out _)) | (go_at_call 35; with_reducible refine Calls.quiet_of_same (HDI.out _)) | (go_at_call 36; with_reducible refine Calls.quiet_of_same (HWR.out _)))
    clear k0 k2 k3 k7
    go_wp2_with fail
    go_loopw [7] (fun i wr => ∃ j : Nat, j ≤ 12 ∧ i = .int .i64 j ∧ Below w.heap.size w wr) (fun i _ => 12 - (intOf i).toNat)
    case atStart => exact ⟨0, by omega, rfl, ⟨rfl, rfl, rfl, Nat.le_refl _, fun _ _ => rfl⟩⟩
    case round =>
      obtain ⟨j, hj, rfl, hb⟩ := hrel
      have HB := Lib.hid hb
      obtain ⟨k0, k3⟩ := HC3.out wr hb
      clear hb
      by_cases hlt : j < 12 ∧ j < ln
      · obtain ⟨h1, h2⟩ := hlt
        have h1I : (j : Int) < 12 := by omega
        have h2I : (j : Int) < (ln : Int) := by omega
        obtain ⟨x, hx⟩ : ∃ x, S.now[j]? = some x := ⟨S.now[j]'(by have := HL.out; omega), List.getElem?_eq_getElem _⟩
        have HR : Hid (S.read (j : Int) = x ∧ S.errR (j : Int) = 0) := Lib.hid (by
          have q : S.on = true ∧ 0 ≤ (j : Int) ∧ (j : Int) < (S.now.length : Int) := ⟨HO.out, by omega, by rw [← HL.out]; exact h2I⟩
          refine ⟨?_, ?_⟩
          · unfold DS.read; rw [if_pos q, Int.toNat_natCast, List.getD_eq_getElem?_getD, hx]; rfl
          · unfold DS.errR; rw [if_pos q.1, if_pos q.2])
        have HX := Lib.hid hx
        have HRJ := Lib.hid (HRD.out (j : Int) wr HB.out)
        rw [HR.out.1, HR.out.2] at HRJ
        clear hx
        go_wp2_with fail
        refine HRJ.out.mono ?_
        rintro e w2 ⟨rfl, hb2⟩
        obtain ⟨k0', k3'⟩ := HC3.out w2 hb2
        have d := (HC.out w2 hb2).2.2.2.2 j x HX.out
        have HB2 := Lib.hid hb2
        clear k0 k3 hb2
        go_wp2_with fail
        go_roundw
        case rel => exact ⟨j + 1, by omega, by go_num, HB2.out⟩
        case measure => simp [intOf]; omega
      · have HRA := Lib.hid (HRD.out at_ wr HB.out)
        have hex : j = 12 ∨ ((j : Int) < 12 ∧ (ln : Int) ≤ (j : Int)) := by omega
        clear hlt hj
        by_cases hr : 0 ≤ at_ ∧ at_ < (ln : Int)
        · obtain ⟨i, rfl⟩ : ∃ i : Nat, at_ = (i : Int) := ⟨at_.toNat, by omega⟩
          obtain ⟨hr0, hr1⟩ := hr
          obtain ⟨x, hx⟩ : ∃ x, S.now[i]? = some x := ⟨S.now[i]'(by have := HL.out; omega), List.getElem?_eq_getElem _⟩
          have HR : Hid (S.read (i : Int) = x ∧ S.errR (i : Int) = 0) := Lib.hid (by
            have q : S.on = true ∧ 0 ≤ (i : Int) ∧ (i : Int) < (S.now.length : Int) := ⟨HO.out, hr0, by rw [← HL.out]; exact hr1⟩
            refine ⟨?_, ?_⟩
            · unfold DS.read; rw [if_pos q, Int.toNat_natCast, List.getD_eq_getElem?_getD, hx]; rfl
            · unfold DS.errR; rw [if_pos q.1, if_pos q.2])
          have HX := Lib.hid hx
          rw [HR.out.1, HR.out.2] at HRA
          clear hx
          rcases hex with rfl | ⟨h1, h2⟩
          · go_wp2_with fail
            refine HRA.out.mono ?_
            rintro e w2 ⟨rfl, hb2⟩
            obtain ⟨k0', k3'⟩ := HC3.out w2 hb2
            have d := (HC.out w2 hb2).2.2.2.2 i x HX.out
            have HB2 := Lib.hid hb2
            clear k0 k3 hb2
            go_wp2_with fail
            go_ret
            exact ⟨rfl, HB2.out⟩
          · go_wp2_with fail
            refine HRA.out.mono ?_
            rintro e w2 ⟨rfl, hb2⟩
            obtain ⟨k0', k3'⟩ := HC3.out w2 hb2
            have d := (HC.out w2 hb2).2.2.2.2 i x HX.out
            have HB2 := Lib.hid hb2
            clear k0 k3 hb2
            go_wp2_with fail
            go_ret
            exact ⟨rfl, HB2.out⟩
        · have HR : Hid (S.read at_ = ⟨#[]⟩ ∧ S.errR at_ = 15) := Lib.hid (by
            refine ⟨?_, ?_⟩
            · unfold DS.read; rw [if_neg (fun h => hr ⟨h.2.1, by rw [HL.out]; exact h.2.2⟩)]; rfl
            · unfold DS.errR; rw [if_pos HO.out, if_neg (by rw [← HL.out]; exact hr)])
          rw [HR.out.1, HR.out.2] at HRA
          by_cases hr0 : at_ < 0
          · clear hr
            rcases hex with rfl | ⟨h1, h2⟩
            · go_wp2_with fail
              refine HRA.out.mono ?_
              rintro e w2 ⟨rfl, hb2⟩
              obtain ⟨k0', k3'⟩ := HC3.out w2 hb2
              have HB2 := Lib.hid hb2
              clear k0 k3 hb2
              go_wp2_with fail
              go_ret
              exact ⟨rfl, HB2.out⟩
            · go_wp2_with fail
              refine HRA.out.mono ?_
              rintro e w2 ⟨rfl, hb2⟩
              obtain ⟨k0', k3'⟩ := HC3.out w2 hb2
              have HB2 := Lib.hid hb2
              clear k0 k3 hb2
              go_wp2_with fail
              go_ret
              exact ⟨rfl, HB2.out⟩
          · have hr1 : (ln : Int) ≤ at_ := by omega
            have hr2 : (0 : Int) ≤ at_ := by omega
            clear hr
            rcases hex with rfl | ⟨h1, h2⟩
            · go_wp2_with fail
              refine HRA.out.mono ?_
              rintro e w2 ⟨rfl, hb2⟩
              obtain ⟨k0', k3'⟩ := HC3.out w2 hb2
              have HB2 := Lib.hid hb2
              clear k0 k3 hb2
              go_wp2_with fail
              go_ret
              exact ⟨rfl, HB2.out⟩
            · go_wp2_with fail
              refine HRA.out.mono ?_
              rintro e w2 ⟨rfl, hb2⟩
              obtain ⟨k0', k3'⟩ := HC3.out w2 hb2
              have HB2 := Lib.hid hb2
              clear k0 k3 hb2
              go_wp2_with fail
              go_ret
              exact ⟨rfl, HB2.out⟩
  · have ho2 : S.on = false := by simpa using ho
    rw [ho2] at k3 HON
    have HO := Lib.hid ho2
    have HC3 : Hid (∀ w', Below w.heap.size w w' → w'.cell? ⟨p, 0, none⟩ = some (.slice (some ⟨gn, 0, none⟩) ln cn) ∧ w'.cell? ⟨p, 3, none⟩ = some (.bool true)) := Lib.hid (fun w' hb => by
      obtain ⟨q0, _, q3, _⟩ := HC.out w' hb
      rw [HO.out] at q3
      rw [← HL.out] at q0
      exact ⟨q0, q3⟩)
    clear ho ho2
    go_enter Try.func11, Try.ntmps11
    go_wp2_with fail
    go_quiet (first | (go_at_call 19; with_reducible refine Calls.quiet_of_same (HON.out _)) | (go_at_call 20; with_reducible refine Calls.quiet_of_same (HSZ.out _)) | (go_at_call 35; with_reducible refine Calls.quiet_of_same (HDI.out _)) | (go_at_call 36; with_reducible refine Calls.quiet_of_same (HWR.out _)))
    clear k0 k2 k3 k7
    go_wp2_with fail
    go_loopw [7] (fun i wr => ∃ j : Nat, j ≤ 12 ∧ i = .int .i64 j ∧ Below w.heap.size w wr) (fun i _ => 12 - (intOf i).toNat)
    case atStart => exact ⟨0, by omega, rfl, ⟨rfl, rfl, rfl, Nat.le_refl _, fun _ _ => rfl⟩⟩
    case round =>
      obtain ⟨j, hj, rfl, hb⟩ := hrel
      have HB := Lib.hid hb
      obtain ⟨k0, k3⟩ := HC3.out wr hb
      clear hb
      by_cases hlt : j < 12 ∧ j < ln
      · obtain ⟨h1, h2⟩ := hlt
        have h1I : (j : Int) < 12 := by omega
        have h2I : (j : Int) < (ln : Int) := by omega
        have HR : Hid (S.read (j : Int) = ⟨#[]⟩ ∧ S.errR (j : Int) = 14) := Lib.hid (by
          refine ⟨?_, ?_⟩
          · unfold DS.read; rw [if_neg (fun h => by rw [HO.out] at h; cases h.1)]; rfl
          · unfold DS.errR; rw [if_neg (by rw [HO.out]; decide)])
        have HRJ := Lib.hid (HRD.out (j : Int) wr HB.out)
        rw [HR.out.1, HR.out.2] at HRJ
        go_wp2_with fail
        refine HRJ.out.mono ?_
        rintro e w2 ⟨rfl, hb2⟩
        obtain ⟨k0', k3'⟩ := HC3.out w2 hb2
        have HB2 := Lib.hid hb2
        clear k0 k3 hb2
        go_wp2_with fail
        go_roundw
        case rel => exact ⟨j + 1, by omega, by go_num, HB2.out⟩
        case measure => simp [intOf]; omega
      · have HRA := Lib.hid (HRD.out at_ wr HB.out)
        have hex : j = 12 ∨ ((j : Int) < 12 ∧ (ln : Int) ≤ (j : Int)) := by omega
        clear hlt hj
        have HR : Hid (S.read at_ = ⟨#[]⟩ ∧ S.errR at_ = 14) := Lib.hid (by
          refine ⟨?_, ?_⟩
          · unfold DS.read; rw [if_neg (fun h => by rw [HO.out] at h; cases h.1)]; rfl
          · unfold DS.errR; rw [if_neg (by rw [HO.out]; decide)])
        rw [HR.out.1, HR.out.2] at HRA
        rcases hex with rfl | ⟨h1, h2⟩
        · go_wp2_with fail
          refine HRA.out.mono ?_
          rintro e w2 ⟨rfl, hb2⟩
          obtain ⟨k0', k3'⟩ := HC3.out w2 hb2
          have HB2 := Lib.hid hb2
          clear k0 k3 hb2
          go_wp2_with fail
          go_ret
          exact ⟨rfl, HB2.out⟩
        · go_wp2_with fail
          refine HRA.out.mono ?_
          rintro e w2 ⟨rfl, hb2⟩
          obtain ⟨k0', k3'⟩ := HC3.out w2 hb2
          have HB2 := Lib.hid hb2
          clear k0 k3 hb2
          go_wp2_with fail
          go_ret
          exact ⟨rfl, HB2.out⟩
end Go.Proofs.Ytpepabggpappgaa
