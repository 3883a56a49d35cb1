/-
  HeadTurns, walked.
-/
import Derived.Test.YtpepabggpappgaaDoorHeadAlive
import Derived.Test.YtpepabggpappgaaDoorKnown
namespace Go.Proofs.YtpepabggpappgaaDoor
open Go.RowKit

/-- A list of numbers as it lies in memory. -/
structure RowD where
  ra : Option Addr
  rc : Nat
  l : List Int
/-- Lists of numbers as a slice below B: nil, empty or not. -/
def Rows8 (w : World) (B : Nat) (A : Option Addr) (rs : List RowD) : Prop :=
  0 < rs.length → ∃ b off, A = some ⟨b, off, none⟩ ∧ b < B ∧ ∀ (j : Nat) (r : RowD), rs[j]? = some r → w.cell? ⟨b, off + j, none⟩ = some (.slice r.ra r.l.length r.rc) ∧ Ints w B r.ra r.l ∧ (r.ra = none → r.l.length = 0 ∧ r.rc = 0)

def slB : Nat → Option Nat
  | 0 => some 63
  | 1 => some 64
  | 2 => some 65
  | 3 => some 66
  | 4 => some 67
  | 5 => some 68
  | 6 => some 6
  | _ => none
theorem slB_far {s : Nat} (hs : s < 63) (h6 : s ≠ 6) : ∀ i, i < 8 → slB i ≠ some s := by
  intro i hi e
  rcases (show i = 0 ∨ i = 1 ∨ i = 2 ∨ i = 3 ∨ i = 4 ∨ i = 5 ∨ i = 6 ∨ i = 7 by omega) with rfl | rfl | rfl | rfl | rfl | rfl | rfl | rfl <;> simp [slB] at e <;> omega

/-- On the way through the region that asks for the next head. -/
structure NJ (W : World) (hd : Value) (A : Option Addr) (n c : Nat) (i : Nat) (pa : Addr) (row : Value) (x : HD) (L : Nat → Bool) (f : Nat → Value) (w' : World) : Prop where
  f0 : L 0 = true → f 0 = hd
  f1 : L 1 = true → f 1 = .slice A n c
  f2 : L 2 = true → f 2 = .int .i64 (i : Int)
  f3 : L 3 = true → f 3 = .pointer (some pa)
  f4 : L 4 = true → f 4 = row
  f5 : L 5 = true → L 7 = false → ∃ A' c', f 5 = x.val A' c' ∧ x.At w' A' c' ∧ (∀ b off, A' = some ⟨b, off, none⟩ → 0 < x.ts.length → ∃ cs fr, w'.heap[b]? = some (.cells cs 3 fr))
  f6 : L 6 = true → L 7 = false → ∃ g, f 6 = .pointer (some ⟨g, 0, none⟩) ∧ W.heap.size ≤ g ∧ Blk w' g 26 #[.int .i64 0, .bool false, .slice none 0 0]
  f7 : L 7 = true → ∃ g A' c', f 6 = .pointer (some ⟨g, 0, none⟩) ∧ W.heap.size ≤ g ∧ Blk w' g 26 #[.int .i64 x.seq, .bool x.full, .slice A' x.ts.length c'] ∧ x.At w' A' c'
  below : Below W.heap.size W w'

set_option maxRecDepth 100000 in
set_option maxHeartbeats 16000000 in
theorem hturns_in (A : Option Addr) (n c : Nat) (rs : List RowD) (w : World) (hn : rs.length = n) (hA : Rows8 w w.heap.size A rs) (h40 : n ≤ 40) :
    Calls Tryd.prog 3 #[.slice A n c] w fun e w' => e = .returned (.bool true) ∧ Below w.heap.size w w' := by
  have HN := Lib.hid hn
  have HA := Lib.hid hA
  have hnI : (n : Int) ≤ 40 := by omega
  clear hn hA
  go_enter Tryd.func3, Tryd.ntmps3
  go_wp2_with fail
  refine (alive8_any _).mono ?_
  rintro e w1 ⟨rfl, hb1⟩
  have HB1 := Lib.hid hb1
  clear hb1
  go_wp2_with fail
  obtain ⟨hb, hhb⟩ : ∃ hb, hb = w1.heap.size := ⟨_, rfl⟩
  have HHB : Hid (w.heap.size ≤ hb) := Lib.hid (by rw [hhb]; exact HB1.out.size)
  have HW1 : Hid (Blk (w1.alloc (.cells #[.int .i64 0, .bool false, .slice none 0 0] 26)) hb 26 #[.int .i64 0, .bool false, .slice none 0 0] ∧ Below w.heap.size w (w1.alloc (.cells #[.int .i64 0, .bool false, .slice none 0 0] 26))) := Lib.hid ⟨by rw [hhb]; exact Blk.new w1 _ _, HB1.out.alloc HB1.out.size _⟩
  rw [← hhb]
  clear hhb
  go_loopw [4] (fun v wr => ∃ i : Nat, i ≤ n ∧ v = .int .i64 i ∧ Blk wr hb 26 #[.int .i64 (i : Int), .bool false, .slice none 0 0] ∧ Below w.heap.size w wr) (fun v _ => n - (intOf v).toNat)
  case atStart => exact ⟨0, Nat.zero_le _, rfl, HW1.out.1, HW1.out.2⟩
  case round =>
    obtain ⟨i, hi, rfl, hblk, hbw⟩ := hrel
    have HBK := Lib.hid hblk
    have HBW := Lib.hid hbw
    clear hblk HW1
    by_cases hlt : i < n
    · have hil : i < rs.length := by rw [HN.out]; exact hlt
      obtain ⟨b, off, rfl, hbb, hc⟩ := HA.out (by omega)
      obtain ⟨r, hr⟩ : ∃ r, rs[i]? = some r := ⟨rs[i], List.getElem?_eq_getElem hil⟩
      obtain ⟨hc0, hr1, hr2⟩ := hc i r hr
      have HROW : Hid (∀ W, Below w.heap.size w W → W.cell? ⟨b, off + i, none⟩ = some (.slice r.ra r.l.length r.rc) ∧ Ints W W.heap.size r.ra r.l) := Lib.hid (fun W hW => ⟨(hW.cell (p := ⟨b, off + i, none⟩) hbb).trans hc0, (hr1.below hW).more hW.size⟩)
      have c0 := (HROW.out wr hbw).1
      obtain ⟨ra, rc, l⟩ := r
      simp only at c0 HROW hr2
      obtain ⟨m, hm⟩ : ∃ m, m = l.length := ⟨_, rfl⟩
      rw [← hm] at c0 HROW hr2
      have HM := Lib.hid hm
      have HR2 := Lib.hid hr2
      have hltI : (i : Int) < (n : Int) := by omega
      have HLT := Lib.hid hlt
      clear hc hc0 hr hr1 hr2 hil hbw hm
      by_cases h110 : 110 < m
      · have h1 : (110 : Int) < (m : Int) := by omega
        go_wp2_with fail
        go_ret
        exact ⟨rfl, HBW.out⟩
      · have h1 : (m : Int) ≤ 110 := by omega
        clear hlt
        go_wp2_with fail
        go_loopw [5] (fun v ww => ∃ k : Nat, k ≤ m ∧ v = .int .i64 k ∧ wr = ww ∧ ∀ y ∈ l.take k, 0 ≤ y ∧ y < 2000) (fun v _ => m - (intOf v).toNat)
        case atStart => exact ⟨0, Nat.zero_le _, rfl, rfl, by simp⟩
        case round =>
          obtain ⟨k, hk, rfl, rfl, hin⟩ := hrel
          have HIN := Lib.hid hin
          clear hin
          by_cases hkm : k < m
          · have hkl : k < l.length := by rw [← HM.out]; exact hkm
            obtain ⟨bl, ol, rfl, hbl, hcl⟩ := (HROW.out wr HBW.out).2 (by omega)
            obtain ⟨y, hy⟩ : ∃ y, y = l[k] := ⟨_, rfl⟩
            have cy := hcl k y (by rw [hy]; exact List.getElem?_eq_getElem hkl)
            have HTK : Hid (l.take (k + 1) = l.take k ++ [y]) := Lib.hid (by rw [List.take_succ_eq_append_getElem hkl, hy])
            have hkI : (k : Int) < (m : Int) := by omega
            clear hcl hy hkl
            by_cases y0 : y < 0
            · go_wp2_with fail
              go_ret
              exact ⟨rfl, HBW.out⟩
            · have y0' : 0 ≤ y := by omega
              by_cases y1 : y < 2000
              · have HIN2 : Hid (∀ z ∈ l.take (k + 1), 0 ≤ z ∧ z < 2000) := Lib.hid (fun z hz => by
                  rw [HTK.out] at hz
                  rcases List.mem_append.1 hz with hz | hz
                  · exact HIN.out z hz
                  · have := List.mem_singleton.1 hz; omega)
                have hlen : k + 1 ≤ m := hkm
                clear y0
                go_wp2_with fail
                go_roundw
                case rel => exact ⟨k + 1, hlen, by go_num, trivial, HIN2.out⟩
                case measure => simp [intOf]; omega
              · have y1' : 2000 ≤ y := by omega
                clear y0
                go_wp2_with fail
                go_ret
                exact ⟨rfl, HBW.out⟩
          · obtain rfl : k = m := by omega
            have HRNG : Hid (∀ y ∈ l, 0 ≤ y ∧ y < 2000) := Lib.hid (by
              have := HIN.out
              rw [List.take_of_length_le (by rw [← HM.out]; exact Nat.le_refl _)] at this
              exact this)
            have hk110 : k ≤ 110 := by omega
            -- the next head
            obtain ⟨x, hx⟩ : ∃ x, x = HD.mk ((i : Int) + 1) true (putOnce l) := ⟨_, rfl⟩
            have HXE := Lib.hid hx
            have HNX : Hid (∀ W, Below w.heap.size w W → Calls Tryd.prog 5 #[.agg #[.int .i64 (i : Int), .bool false, .slice none 0 0], .slice ra k rc] W fun e w' => ∃ A' c', e = .returned (x.val A' c') ∧ x.At w' A' c' ∧ (∀ b off, A' = some ⟨b, off, none⟩ → 0 < x.ts.length → ∃ cs fr, w'.heap[b]? = some (.cells cs 3 fr)) ∧ Below W.heap.size W w') := Lib.hid (fun W hW => by
              have h1 := hnext_any (HD.mk (i : Int) false []) none 0 ra k rc l W HM.out.symm (HROW.out W hW).2 HR2.out ⟨by show (0 : Int) ≤ (i : Int); omega, by show (i : Int) ≤ 1000000; omega⟩ (by omega)
              have e : (HD.mk ((HD.mk (i : Int) false []).seq + 1) true (putOnce l)) = x := by rw [hx]
              rw [e] at h1
              have e2 : (putOnce l) = x.ts := by rw [hx]
              rw [e2] at h1
              exact h1)
            have cb := HBK.out
            have q0 := cb.cell 0
            have q1 := cb.cell 1
            have q2 := cb.cell 2
            simp at q0 q1 q2
            have HWC : Hid (∀ W, Below wr.heap.size wr W → W.cell? ⟨b, off + i, none⟩ = some (.slice ra k rc) ∧ W.cell? ⟨hb, 0, none⟩ = some (.int .i64 (i : Int)) ∧ W.cell? ⟨hb, 1, none⟩ = some (.bool false) ∧ W.cell? ⟨hb, 2, none⟩ = some (.slice none 0 0)) := Lib.hid (fun W hW => by
              have cb := HBK.out.below hW HBK.out.lt
              have q0 := cb.cell 0
              have q1 := cb.cell 1
              have q2 := cb.cell 2
              simp at q0 q1 q2
              exact ⟨(HROW.out W (HBW.out.trans (hW.mono HBW.out.size))).1, q0, q1, q2⟩)
            have HWB : Hid (∀ W, Below wr.heap.size wr W → Below w.heap.size w W) := Lib.hid (fun W hW => HBW.out.trans (hW.mono HBW.out.size))
            clear cb hx HIN
            go_upto_region 14 with fail
            clear q0 q1 q2 c0
            refine wp_region_free 8 slB (NJ wr (.agg #[.int .i64 (i : Int), .bool false, .slice none 0 0]) (some ⟨b, off, none⟩) n c i ⟨b, off + i, none⟩ (.slice ra k rc) x) (by kernel_rfl) (by kernel_rfl) rfl (by kernel_rfl) (by kernel_rfl) ?h0 ?hops ?hrest
            case h0 => exact ⟨(fun h => by cases h), (fun h => by cases h), (fun h => by cases h), (fun h => by cases h), (fun h => by cases h), (fun h => by cases h), (fun h => by cases h), (fun h => by cases h), (Below.refl _ _).drew⟩
            case hops =>
              intro o ho L f y w' hcl hF hLo hJ hw hy
              obtain ⟨p0, p1, p2, p3⟩ := HWC.out w' hJ.below
              have HJ := Lib.hid hJ
              clear hJ
              rcases (show o = 0 ∨ o = 1 ∨ o = 2 ∨ o = 3 ∨ o = 4 ∨ o = 5 ∨ o = 6 ∨ o = 7 by omega) with rfl | rfl | rfl | rfl | rfl | rfl | rfl | rfl
              · have t0 : y.tmps[3]?.getD undef = .pointer (some ⟨hb, 0, none⟩) := by rw [hF 3 (slB_far (by omega) (by omega))]; rfl
                clear hw hy hF
                refine wpOp_value (v := .agg #[.int .i64 (i : Int), .bool false, .slice none 0 0]) (w' := w') rfl rfl ?_ ⟨_, rfl, ?_⟩
                · go_simp
                · have k := HJ.out
                  exact ⟨fun _ => rfl, k.f1, k.f2, k.f3, k.f4, k.f5, k.f6, k.f7, k.below⟩
              · have t0 : y.tmps[0]?.getD undef = .slice (some ⟨b, off, none⟩) n c := by rw [hF 0 (slB_far (by omega) (by omega))]; rfl
                clear hw hy hF
                refine wpOp_value (v := .slice (some ⟨b, off, none⟩) n c) (w' := w') rfl rfl ?_ ⟨_, rfl, ?_⟩
                · go_simp
                · have k := HJ.out
                  exact ⟨k.f0, fun _ => rfl, k.f2, k.f3, k.f4, k.f5, k.f6, k.f7, k.below⟩
              · have t0 : y.tmps[4]?.getD undef = .int .i64 (i : Int) := by rw [hF 4 (slB_far (by omega) (by omega))]; rfl
                clear hw hy hF
                refine wpOp_value (v := .int .i64 (i : Int)) (w' := w') rfl rfl ?_ ⟨_, rfl, ?_⟩
                · go_simp
                · have k := HJ.out
                  exact ⟨k.f0, k.f1, fun _ => rfl, k.f3, k.f4, k.f5, k.f6, k.f7, k.below⟩
              · have l1 : L 1 = true := hw 1 (of_decide_eq_true (by kernel_rfl))
                have l2 : L 2 = true := hw 2 (of_decide_eq_true (by kernel_rfl))
                have t0 : y.tmps[64]?.getD undef = .slice (some ⟨b, off, none⟩) n c := (hy 1 64 (by omega) l1 rfl).trans (HJ.out.f1 l1)
                have t1 : y.tmps[65]?.getD undef = .int .i64 (i : Int) := (hy 2 65 (by omega) l2 rfl).trans (HJ.out.f2 l2)
                clear hw hy hF
                refine wpOp_value (v := .pointer (some ⟨b, off + i, none⟩)) (w' := w') rfl rfl ?_ ⟨_, rfl, ?_⟩
                · go_simp
                · have k := HJ.out
                  exact ⟨k.f0, k.f1, k.f2, fun _ => rfl, k.f4, k.f5, k.f6, k.f7, k.below⟩
              · have l3 : L 3 = true := hw 3 (of_decide_eq_true (by kernel_rfl))
                have t0 : y.tmps[66]?.getD undef = .pointer (some ⟨b, off + i, none⟩) := (hy 3 66 (by omega) l3 rfl).trans (HJ.out.f3 l3)
                clear hw hy hF
                refine wpOp_value (v := .slice ra k rc) (w' := w') rfl rfl ?_ ⟨_, rfl, ?_⟩
                · go_simp
                · have k := HJ.out
                  exact ⟨k.f0, k.f1, k.f2, k.f3, fun _ => rfl, k.f5, k.f6, k.f7, k.below⟩
              · have l0 : L 0 = true := hw 0 (of_decide_eq_true (by kernel_rfl))
                have l4 : L 4 = true := hw 4 (of_decide_eq_true (by kernel_rfl))
                have t0 : y.tmps[63]?.getD undef = .agg #[.int .i64 (i : Int), .bool false, .slice none 0 0] := (hy 0 63 (by omega) l0 rfl).trans (HJ.out.f0 l0)
                have t1 : y.tmps[67]?.getD undef = .slice ra k rc := (hy 4 67 (by omega) l4 rfl).trans (HJ.out.f4 l4)
                have l7 : L 7 = false := by
                  cases hl : L 7 with
                  | false => rfl
                  | true => rw [hcl 7 hl 5 (of_decide_eq_true (by kernel_rfl))] at hLo; cases hLo
                have hbw' := HWB.out w' HJ.out.below
                clear hw hy hF hcl
                refine wpOp_call (f := 5) (args := #[.agg #[.int .i64 (i : Int), .bool false, .slice none 0 0], .slice ra k rc]) rfl rfl (by go_simp) ((HNX.out w' hbw').mono ?_)
                rintro e w'' ⟨A', c', rfl, ha, ht, hb2⟩
                have k := HJ.out
                refine ⟨_, rfl, _, rfl, k.f0, k.f1, k.f2, k.f3, k.f4, fun _ _ => ⟨A', c', rfl, ha, ht⟩, fun h6 h7 => ?_, (fun h => by rw [show L 7 = true from h] at l7; cases l7), k.below.trans (hb2.mono k.below.size)⟩
                obtain ⟨g, e1, e2, e3⟩ := k.f6 h6 h7
                exact ⟨g, e1, e2, e3.below hb2 e3.lt⟩
              · have l7 : L 7 = false := by
                  cases hl : L 7 with
                  | false => rfl
                  | true => rw [hcl 7 hl 6 (of_decide_eq_true (by kernel_rfl))] at hLo; cases hLo
                clear hw hy hF hcl
                refine wpOp_value (v := .pointer (some ⟨w'.heap.size, 0, none⟩)) (w' := w'.alloc (.cells #[.int .i64 0, .bool false, .slice none 0 0] 26)) rfl rfl ?_ ⟨_, rfl, ?_⟩
                · go_simp
                · have k := HJ.out
                  have hb2 : Below w'.heap.size w' (w'.alloc (.cells #[.int .i64 0, .bool false, .slice none 0 0] 26)) := (Below.refl _ _).alloc (Nat.le_refl _) _
                  refine ⟨k.f0, k.f1, k.f2, k.f3, k.f4, fun h5 _ => ?_, fun _ _ => ⟨_, rfl, k.below.size, Blk.new _ _ _⟩, (fun h => by rw [show L 7 = true from h] at l7; cases l7), k.below.alloc k.below.size _⟩
                  obtain ⟨A', c', e1, e2, e3⟩ := k.f5 h5 l7
                  refine ⟨A', c', e1, e2.below hb2, fun b off e hp => ?_⟩
                  obtain ⟨cs, fr, h⟩ := e3 b off e hp
                  have hlt : b < w'.heap.size := by
                    rcases Nat.lt_or_ge b w'.heap.size with h1 | h1
                    · exact h1
                    · rw [Array.getElem?_eq_none h1] at h; cases h
                  exact ⟨cs, fr, (hb2.block b hlt).trans h⟩
              · have l5 : L 5 = true := hw 5 (of_decide_eq_true (by kernel_rfl))
                have l6 : L 6 = true := hw 6 (of_decide_eq_true (by kernel_rfl))
                have k := HJ.out
                obtain ⟨g, e1, e2, e3⟩ := k.f6 l6 hLo
                obtain ⟨A', c', d1, d2, d3⟩ := k.f5 l5 hLo
                have t0 : y.tmps[6]?.getD undef = .pointer (some ⟨g, 0, none⟩) := (hy 6 6 (by omega) l6 rfl).trans e1
                have t1 : y.tmps[68]?.getD undef = .agg #[.int .i64 x.seq, .bool x.full, .slice A' x.ts.length c'] := (hy 5 68 (by omega) l5 rfl).trans d1
                have z0 := e3.cell 0
                have z1 := e3.cell 1
                have z2 := e3.cell 2
                have y0 := e3.frozen 0
                have y1 := e3.frozen 1
                have y2 := e3.frozen 2
                simp at z0 z1 z2
                have hb3 := ((e3.put 0 (.int .i64 x.seq)).put 1 (.bool x.full)).put 2 (.slice A' x.ts.length c')
                have HE := Lib.hid (And.intro e1 (And.intro e2 (And.intro d2 (And.intro d3 (And.intro e3 hb3)))))
                obtain ⟨xs, hxs⟩ : ∃ xs, xs = x.seq := ⟨_, rfl⟩
                obtain ⟨xf, hxf⟩ : ∃ xf, xf = x.full := ⟨_, rfl⟩
                obtain ⟨xn, hxn⟩ : ∃ xn, xn = x.ts.length := ⟨_, rfl⟩
                have HXX := Lib.hid (And.intro hxs (And.intro hxf hxn))
                rw [← hxs, ← hxf, ← hxn] at t1
                clear hw hy hF hcl e1 e2 e3 d1 d2 d3 k hb3 hxs hxf hxn
                refine wpOp_skip (w' := ((w'.setCell ⟨g, 0, none⟩ (.int .i64 xs)).setCell ⟨g, 1, none⟩ (.bool xf)).setCell ⟨g, 2, none⟩ (.slice A' xn c')) rfl rfl ?_ ⟨undef, rfl, ?_⟩
                · go_simp
                · obtain ⟨e1, e2, d2, d3, e3, hb3⟩ := HE.out
                  obtain ⟨hxs, hxf, hxn⟩ := HXX.out
                  rw [hxs, hxf, hxn]
                  have k := HJ.out
                  have hW : ∀ u1 u2 u3, ∀ q, g ≠ q → (((w'.setCell ⟨g, 0, none⟩ u1).setCell ⟨g, 1, none⟩ u2).setCell ⟨g, 2, none⟩ u3).heap[q]? = w'.heap[q]? := fun u1 u2 u3 q hq => (Below.heap_setCell _ _ _ _ (fun e => hq e.symm)).trans ((Below.heap_setCell _ _ _ _ (fun e => hq e.symm)).trans (Below.heap_setCell _ _ _ _ (fun e => hq e.symm)))
                  refine ⟨k.f0, k.f1, k.f2, k.f3, k.f4, (fun _ h => by cases h), (fun _ h => by cases h), fun _ => ⟨g, A', c', e1, e2, hb3, ?_⟩, ((k.below.setCell e2 _).setCell e2 _).setCell e2 _⟩
                  · refine ⟨fun hp => ?_, d2.few⟩
                    obtain ⟨bq, oq, e, hbq, hcq⟩ := d2.lie hp
                    obtain ⟨cs, fr, hty⟩ := d3 bq oq e hp
                    have hne : bq ≠ g := fun eq => by
                      subst eq
                      have h3 : w'.heap[bq]? = some (.cells _ 26 (0, 0)) := e3
                      rw [hty] at h3
                      injection h3 with h3
                      injection h3 with _ h4 _
                      exact absurd h4 (by decide)
                    refine ⟨bq, oq, e, by simpa [World.setCell] using hbq, fun j z hz => ?_⟩
                    rw [World.cell?_of_block (w := w') (hW _ _ _ bq (fun e => hne e.symm))]
                    exact hcq j z hz
            case hrest =>
              intro L f w' hL hJ
              have kk := hJ
              obtain ⟨g, A', c', e6, hgW, hgx, hga⟩ := kk.f7 (hL 7 (by omega))
              have hgx : Blk w' g 26 #[.int .i64 ((i : Int) + 1), .bool true, .slice A' (putOnce l).length c'] := by
                have h1 := hgx
                rw [HXE.out] at h1
                exact h1
              have HXA := Lib.hid hga
              have HBW2 := Lib.hid kk.below
              have HHB2 : Hid (Blk w' hb 26 #[.int .i64 (i : Int), .bool false, .slice none 0 0]) := Lib.hid (HBK.out.below kk.below HBK.out.lt)
              obtain ⟨xn, hxn⟩ : ∃ xn, xn = (putOnce l).length := ⟨_, rfl⟩
              rw [← hxn] at hgx
              have HXN := Lib.hid hxn
              have HGX := Lib.hid hgx
              have g0 := hgx.cell 0
              have g1 := hgx.cell 1
              have g2 := hgx.cell 2
              simp at g0 g1 g2
              have hrow := (HROW.out w' (HWB.out w' kk.below)).1
              have HPO := Lib.hid (putOnce_ok HRNG.out)
              -- what Lay, Read say of the next head, and of it when it is done
              have HLX : Hid (∀ W, x.At W A' c' → Calls Tryd.prog 6 #[.agg #[.int .i64 ((i : Int) + 1), .bool true, .slice A' xn c']] W fun e w' => e = .returned (if x.validB then .tuple #[.string (bs x.text), .int .i64 0] else .tuple #[.string ⟨#[]⟩, .int .i64 1]) ∧ Below W.heap.size W w') := Lib.hid (fun W ha => by
                have h1 := hlay_any x A' c' W ha
                have e : x.val A' c' = .agg #[.int .i64 ((i : Int) + 1), .bool true, .slice A' xn c'] := by rw [HXE.out, HXN.out]; rfl
                rwa [e] at h1)
              have HDN : Hid (∀ W, Calls Tryd.prog 9 #[.agg #[.int .i64 ((i : Int) + 1), .bool true, .slice A' xn c']] W fun e w' => e = .returned (.agg #[.int .i64 ((i : Int) + 1), .bool false, .slice none 0 0]) ∧ Below W.heap.size W w') := Lib.hid (fun W => by
                have h1 := hdone_any x A' c' W
                have e : x.val A' c' = .agg #[.int .i64 ((i : Int) + 1), .bool true, .slice A' xn c'] := by rw [HXE.out, HXN.out]; rfl
                have e2 : (HD.mk x.seq false []).val none 0 = .agg #[.int .i64 ((i : Int) + 1), .bool false, .slice none 0 0] := by rw [HXE.out]; rfl
                rwa [e, e2] at h1)
              obtain ⟨d, hd⟩ : ∃ d, d = HD.mk ((i : Int) + 1) false [] := ⟨_, rfl⟩
              have hdv : d.validB = true := by
                rw [hd]
                unfold HD.validB
                simp
                omega
              obtain ⟨D, hD⟩ : ∃ D, D = bs d.text := ⟨_, rfl⟩
              have HLD : Hid (∀ W, Calls Tryd.prog 6 #[.agg #[.int .i64 ((i : Int) + 1), .bool false, .slice none 0 0]] W fun e w' => e = .returned (.tuple #[.string D, .int .i64 0]) ∧ Below W.heap.size W w') := Lib.hid (fun W => by
                have h1 := hlay_any d none 0 W ⟨by rw [hd]; exact fun h => absurd h (by simp), by rw [hd]; simp⟩
                rw [if_pos hdv, ← hD] at h1
                have e : d.val none 0 = .agg #[.int .i64 ((i : Int) + 1), .bool false, .slice none 0 0] := by rw [hd]; rfl
                rwa [e] at h1)
              have HRDD : Hid (∀ W, Calls Tryd.prog 7 #[.string D] W fun e w' => ∃ A2 c2, e = .returned (.tuple #[.agg #[.int .i64 ((i : Int) + 1), .bool false, .slice A2 0 c2], .int .i64 0]) ∧ Below W.heap.size W w') := Lib.hid (fun W => by
                rw [hD]
                refine (hread_laid d hdv W).mono ?_
                rintro e w' ⟨A2, c2, rfl, _, hb⟩
                exact ⟨A2, c2, by rw [hd]; rfl, hb⟩)
              simp only [putSlots, slB, List.range, List.range.loop, List.foldl, List.setIfInBounds_toArray, List.set_cons_succ, List.set_cons_zero, e6]
              clear e6 hJ kk hL hga hxn hgx hd hdv hD
              by_cases hk0 : k = 0
              · have hl0 : l = [] := List.eq_nil_of_length_eq_zero (by rw [← HM.out]; exact hk0)
                have hx0 : x.validB = false := by
                  rw [HXE.out, hl0]
                  simp [HD.validB, putOnce, Lib.compact, Lib.compactUpTo]
                have HLX : Hid (∀ W, x.At W A' c' → Calls Tryd.prog 6 #[.agg #[.int .i64 ((i : Int) + 1), .bool true, .slice A' xn c']] W fun e w' => e = .returned (.tuple #[.string ⟨#[]⟩, .int .i64 1]) ∧ Below W.heap.size W w') := Lib.hid (fun W ha => by have := HLX.out W ha; rwa [hx0, if_neg (by decide)] at this)
                have hkI : (k : Int) = 0 := by omega
                subst hk0
                clear hl0 hx0 hkI
                go_wp2_with fail
                refine (HLX.out _ HXA.out).mono ?_
                rintro e wl ⟨rfl, hbl⟩
                have HXT : Hid (Blk wl g 26 #[.int .i64 ((i : Int) + 1), .bool true, .slice A' xn c']) := Lib.hid (HGX.out.below hbl HGX.out.lt)
                have HHT : Hid (Blk wl hb 26 #[.int .i64 (i : Int), .bool false, .slice none 0 0]) := Lib.hid (HHB2.out.below hbl HHB2.out.lt)
                have HBT : Hid (Below wr.heap.size wr wl) := Lib.hid (HBW2.out.trans (hbl.mono HBW2.out.size))
                have t0 := HXT.out.cell 0
                have t1 := HXT.out.cell 1
                have t2 := HXT.out.cell 2
                simp at t0 t1 t2
                have hrow := (HROW.out wl (HWB.out wl HBT.out)).1
                clear hbl g0 g1 g2
                go_wp2_with fail
                refine (HDN.out _).mono ?_
                rintro e wd ⟨rfl, hbd⟩
                have HHD : Hid (Blk wd hb 26 #[.int .i64 (i : Int), .bool false, .slice none 0 0]) := Lib.hid (HHT.out.below hbd HHT.out.lt)
                have HBD : Hid (Below wr.heap.size wr wd) := Lib.hid (HBT.out.trans (hbd.mono HBT.out.size))
                have z0 := HHD.out.cell 0
                have z1 := HHD.out.cell 1
                have z2 := HHD.out.cell 2
                have y0 := HHD.out.frozen 0
                have y1 := HHD.out.frozen 1
                have y2 := HHD.out.frozen 2
                simp at z0 z1 z2
                clear hbd t0 t1 t2 hrow
                go_upto_region 23 with fail
                obtain ⟨W3, hW3⟩ : ∃ W3, W3 = ((wd.setCell ⟨hb, 0, none⟩ (.int .i64 ((i : Int) + 1))).setCell ⟨hb, 1, none⟩ (.bool false)).setCell ⟨hb, 2, none⟩ (.slice none 0 0) := ⟨_, rfl⟩
                have hb3 := ((HHD.out.put 0 (.int .i64 ((i : Int) + 1))).put 1 (.bool false)).put 2 (.slice none 0 0)
                rw [← hW3] at hb3 ⊢
                have HB3 : Hid (Blk W3 hb 26 #[.int .i64 ((i : Int) + 1), .bool false, .slice none 0 0]) := Lib.hid hb3
                have HW3 : Hid (Below w.heap.size w W3) := Lib.hid (by
                  rw [hW3]
                  have k1 : Below w.heap.size w wd := HWB.out wd HBD.out
                  exact ((k1.setCell HHB.out _).setCell HHB.out _).setCell HHB.out _)
                have z0 := hb3.cell 0
                have z1 := hb3.cell 1
                have z2 := hb3.cell 2
                simp at z0 z1 z2
                clear hW3 hb3
                go_wp2_with fail
                refine (HLD.out _).mono ?_
                rintro e W4 ⟨rfl, hb4⟩
                have HB4 : Hid (Blk W4 hb 26 #[.int .i64 ((i : Int) + 1), .bool false, .slice none 0 0]) := Lib.hid (HB3.out.below hb4 HB3.out.lt)
                have HW4 : Hid (Below w.heap.size w W4) := Lib.hid (HW3.out.trans (hb4.mono HW3.out.size))
                clear hb4 z0 z1 z2
                go_wp2_with fail
                refine (HRDD.out _).mono ?_
                rintro e W5 ⟨A5, c5, rfl, hb5⟩
                have HB5 : Hid (Blk W5 hb 26 #[.int .i64 ((i : Int) + 1), .bool false, .slice none 0 0]) := Lib.hid (HB4.out.below hb5 HB4.out.lt)
                have HW5 : Hid (Below w.heap.size w W5) := Lib.hid (HW4.out.trans (hb5.mono HW4.out.size))
                clear hb5
                go_wp2_with fail
                go_roundw
                case rel =>
                  refine ⟨i + 1, HLT.out, by go_num, ?_, HW5.out.alloc HW5.out.size _⟩
                  have := HB5.out.below ((Below.refl _ _).alloc (Nat.le_refl _) (.cells #[.int .i64 ((i : Int) + 1), .bool false, .slice A5 0 c5] 26)) HB5.out.lt
                  rw [show (((i + 1 : Nat)) : Int) = (i : Int) + 1 by omega]
                  exact this
                case measure => have := HLT.out; simp [intOf]; omega
              · have hkp : 0 < l.length := by rw [← HM.out]; omega
                have hxv : x.validB = true := by
                  obtain ⟨p1, p2, p3⟩ := HPO.out
                  have p2 := p2 hkp
                  have p4 : (putOnce l).length ≤ 110 := by have := HM.out; omega
                  rw [HXE.out]
                  unfold HD.validB
                  simp only [if_true, p1, Bool.and_true, Bool.and_eq_true, decide_eq_true_eq]
                  exact ⟨by omega, by omega, p4⟩
                obtain ⟨X, hX⟩ : ∃ X, X = bs x.text := ⟨_, rfl⟩
                have hXs : (X.size : Int) = 256 := by rw [hX, bs_size, (HD.valid_of hxv).text_len]; rfl
                have HRX : Hid (∀ W, Calls Tryd.prog 7 #[.string X] W fun e w' => ∃ A2 c2, e = .returned (.tuple #[.agg #[.int .i64 ((i : Int) + 1), .bool true, .slice A2 xn c2], .int .i64 0]) ∧ x.At w' A2 c2 ∧ Below W.heap.size W w') := Lib.hid (fun W => by
                  rw [hX]
                  refine (hread_laid x hxv W).mono ?_
                  rintro e w' ⟨A2, c2, rfl, ha, hb⟩
                  exact ⟨A2, c2, by rw [HXE.out, HXN.out]; rfl, ha, hb⟩)
                have HSAME : Hid (∀ W A2 c2, x.At W A' c' → x.At W A2 c2 → Calls Tryd.prog 8 #[.agg #[.int .i64 ((i : Int) + 1), .bool true, .slice A' xn c'], .agg #[.int .i64 ((i : Int) + 1), .bool true, .slice A2 xn c2]] W fun e w' => e = .returned (.bool true) ∧ Below W.heap.size W w') := Lib.hid (fun W A2 c2 h1 h2 => by
                  have h3 := hsame_any x A' c' A2 c2 W h1 h2
                  have e : ∀ A c, x.val A c = .agg #[.int .i64 ((i : Int) + 1), .bool true, .slice A xn c] := fun A c => by rw [HXE.out, HXN.out]; rfl
                  rwa [e, e] at h3)
                have hkI : (0 : Int) < (k : Int) := by omega
                have hkN : 0 < k := by omega
                have HLX : Hid (∀ W, x.At W A' c' → Calls Tryd.prog 6 #[.agg #[.int .i64 ((i : Int) + 1), .bool true, .slice A' xn c']] W fun e w' => e = .returned (.tuple #[.string X, .int .i64 0]) ∧ Below W.heap.size W w') := Lib.hid (fun W ha => by have := HLX.out W ha; rwa [hxv, if_pos rfl, ← hX] at this)
                clear hkp hxv hX hk0
                go_wp2_with fail
                refine (HLX.out _ HXA.out).mono ?_
                rintro e wl ⟨rfl, hbl⟩
                have HXT : Hid (Blk wl g 26 #[.int .i64 ((i : Int) + 1), .bool true, .slice A' xn c']) := Lib.hid (HGX.out.below hbl HGX.out.lt)
                have HHT : Hid (Blk wl hb 26 #[.int .i64 (i : Int), .bool false, .slice none 0 0]) := Lib.hid (HHB2.out.below hbl HHB2.out.lt)
                have HBT : Hid (Below wr.heap.size wr wl) := Lib.hid (HBW2.out.trans (hbl.mono HBW2.out.size))
                have HXA2 : Hid (x.At wl A' c') := Lib.hid (HXA.out.below hbl)
                have t0 := HXT.out.cell 0
                have t1 := HXT.out.cell 1
                have t2 := HXT.out.cell 2
                simp at t0 t1 t2
                have hrow := (HROW.out wl (HWB.out wl HBT.out)).1
                clear hbl g0 g1 g2
                go_wp2_with fail
                refine (HRX.out _).mono ?_
                rintro e wm ⟨A2, c2, rfl, ha2, hbm⟩
                have HXM : Hid (Blk wm g 26 #[.int .i64 ((i : Int) + 1), .bool true, .slice A' xn c']) := Lib.hid (HXT.out.below hbm HXT.out.lt)
                have HHM : Hid (Blk wm hb 26 #[.int .i64 (i : Int), .bool false, .slice none 0 0]) := Lib.hid (HHT.out.below hbm HHT.out.lt)
                have HBM : Hid (Below wr.heap.size wr wm) := Lib.hid (HBT.out.trans (hbm.mono HBT.out.size))
                have HXA3 : Hid (x.At wm A' c') := Lib.hid (HXA2.out.below hbm)
                have HXA4 := Lib.hid ha2
                clear hbm ha2 hrow t0 t1 t2
                go_upto_region 20 with fail
                obtain ⟨wz, hwz⟩ : ∃ wz, wz = wm.alloc (.cells #[.int .i64 ((i : Int) + 1), .bool true, .slice A2 xn c2] 26) := ⟨_, rfl⟩
                rw [← hwz]
                have HZB : Hid (Below wm.heap.size wm wz) := Lib.hid (by rw [hwz]; exact (Below.refl _ _).alloc (Nat.le_refl _) _)
                have HZS : Hid (wz.heap.size = wm.heap.size + 1) := Lib.hid (by rw [hwz]; simp)
                have bz := HXM.out.below HZB.out HXM.out.lt
                have by2 : Blk wz wm.heap.size 26 #[.int .i64 ((i : Int) + 1), .bool true, .slice A2 xn c2] := by rw [hwz]; exact Blk.new wm _ _
                have t0 := bz.cell 0
                have t1 := bz.cell 1
                have t2 := bz.cell 2
                have s0 := by2.cell 0
                have s1 := by2.cell 1
                have s2 := by2.cell 2
                simp at t0 t1 t2 s0 s1 s2
                clear hwz bz by2
                go_wp2_with fail
                refine (HSAME.out _ A2 c2 (HXA3.out.below HZB.out) (HXA4.out.below HZB.out)).mono ?_
                rintro e wn ⟨rfl, hbn⟩
                have hbn' : Below wm.heap.size wm wn := HZB.out.trans (hbn.mono (by have := HZS.out; omega))
                have HXT2 : Hid (Blk wn g 26 #[.int .i64 ((i : Int) + 1), .bool true, .slice A' xn c']) := Lib.hid (HXM.out.below hbn' HXM.out.lt)
                have HHT2 : Hid (Blk wn hb 26 #[.int .i64 (i : Int), .bool false, .slice none 0 0]) := Lib.hid (HHM.out.below hbn' HHM.out.lt)
                have HBT2 : Hid (Below wr.heap.size wr wn) := Lib.hid (HBM.out.trans (hbn'.mono HBM.out.size))
                have t0 := HXT2.out.cell 0
                have t1 := HXT2.out.cell 1
                have t2 := HXT2.out.cell 2
                simp at t0 t1 t2
                clear hbn hbn' s0 s1 s2
                go_wp2_with fail
                refine (HDN.out _).mono ?_
                rintro e wd ⟨rfl, hbd⟩
                have HHD : Hid (Blk wd hb 26 #[.int .i64 (i : Int), .bool false, .slice none 0 0]) := Lib.hid (HHT2.out.below hbd HHT2.out.lt)
                have HBD : Hid (Below wr.heap.size wr wd) := Lib.hid (HBT2.out.trans (hbd.mono HBT2.out.size))
                have z0 := HHD.out.cell 0
                have z1 := HHD.out.cell 1
                have z2 := HHD.out.cell 2
                have y0 := HHD.out.frozen 0
                have y1 := HHD.out.frozen 1
                have y2 := HHD.out.frozen 2
                simp at z0 z1 z2
                clear hbd t0 t1 t2
                go_upto_region 23 with fail
                obtain ⟨W3, hW3⟩ : ∃ W3, W3 = ((wd.setCell ⟨hb, 0, none⟩ (.int .i64 ((i : Int) + 1))).setCell ⟨hb, 1, none⟩ (.bool false)).setCell ⟨hb, 2, none⟩ (.slice none 0 0) := ⟨_, rfl⟩
                have hb3 := ((HHD.out.put 0 (.int .i64 ((i : Int) + 1))).put 1 (.bool false)).put 2 (.slice none 0 0)
                rw [← hW3] at hb3 ⊢
                have HB3 : Hid (Blk W3 hb 26 #[.int .i64 ((i : Int) + 1), .bool false, .slice none 0 0]) := Lib.hid hb3
                have HW3 : Hid (Below w.heap.size w W3) := Lib.hid (by
                  rw [hW3]
                  have k1 : Below w.heap.size w wd := HWB.out wd HBD.out
                  exact ((k1.setCell HHB.out _).setCell HHB.out _).setCell HHB.out _)
                have z0 := hb3.cell 0
                have z1 := hb3.cell 1
                have z2 := hb3.cell 2
                simp at z0 z1 z2
                clear hW3 hb3
                go_wp2_with fail
                refine (HLD.out _).mono ?_
                rintro e W4 ⟨rfl, hb4⟩
                have HB4 : Hid (Blk W4 hb 26 #[.int .i64 ((i : Int) + 1), .bool false, .slice none 0 0]) := Lib.hid (HB3.out.below hb4 HB3.out.lt)
                have HW4 : Hid (Below w.heap.size w W4) := Lib.hid (HW3.out.trans (hb4.mono HW3.out.size))
                clear hb4 z0 z1 z2
                go_wp2_with fail
                refine (HRDD.out _).mono ?_
                rintro e W5 ⟨A5, c5, rfl, hb5⟩
                have HB5 : Hid (Blk W5 hb 26 #[.int .i64 ((i : Int) + 1), .bool false, .slice none 0 0]) := Lib.hid (HB4.out.below hb5 HB4.out.lt)
                have HW5 : Hid (Below w.heap.size w W5) := Lib.hid (HW4.out.trans (hb5.mono HW4.out.size))
                clear hb5
                go_wp2_with fail
                go_roundw
                case rel =>
                  refine ⟨i + 1, HLT.out, by go_num, ?_, HW5.out.alloc HW5.out.size _⟩
                  have := HB5.out.below ((Below.refl _ _).alloc (Nat.le_refl _) (.cells #[.int .i64 ((i : Int) + 1), .bool false, .slice A5 0 c5] 26)) HB5.out.lt
                  rw [show (((i + 1 : Nat)) : Int) = (i : Int) + 1 by omega]
                  exact this
                case measure => have := HLT.out; simp [intOf]; omega
    · go_wp2_with fail
      go_ret
      exact ⟨rfl, HBW.out⟩

set_option maxHeartbeats 1000000 in
theorem hturns_any (A : Option Addr) (n c : Nat) (rs : List RowD) (w : World) (hn : rs.length = n) (hA : Rows8 w w.heap.size A rs) (hb : n ≤ 9223372036854775807) :
    Calls Tryd.prog 3 #[.slice A n c] w fun e w' => e = .returned (.bool true) ∧ Below w.heap.size w w' := by
  by_cases h40 : n ≤ 40
  · exact hturns_in A n c rs w hn hA h40
  · have h1 : (40 : Int) < (n : Int) := by omega
    clear hn hA
    go_enter Tryd.func3, Tryd.ntmps3
    go_wp2_with fail
    refine (alive8_any _).mono ?_
    rintro e w1 ⟨rfl, hb1⟩
    go_wp2_with fail
    go_ret
    exact ⟨rfl, hb1⟩
end Go.Proofs.YtpepabggpappgaaDoor
