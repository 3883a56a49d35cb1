/-
  WalPlays: the law itself. No statement is proved here.
-/
import Derived.Test.YtbaanoomilohhaaGreatDoorWalPlaysMid
import Derived.Test.YtbaanoomilohhaaGreatDoorWalPlaysView
import Derived.Test.YtbaanoomilohhaaGreatDoorWalAlive
import Derived.Test.YtbaanoomilohhaaGreatDoorRefPut
import Derived.Deep.AppendLies
import Derived.Deep.DeepCutAuto
import Derived.Deep.CutBlock
import Derived.Deep.CutRange
namespace Go.Proofs.YtbaanoomilohhaaGreatDoor
open Go.RowKit

theorem wrow_win {w : World} {base : Nat} {e : TypeId} {n c : Nat} {p : Option Addr} {l : List (Int × ByteArray)} (h : w.ownsRow base e 2 (.slice p n c) n (flatI l)) (hl : l.length = n) : WIn w p l := fun hp => by
  obtain ⟨g, e1, _, e3, e4⟩ := wrow_cells h (by omega)
  exact ⟨g, 0, e1, e3, fun j x hx => by have := e4 j x hx; simpa using this⟩
theorem lent_keep {w w' : World} {B g cap : Nat} {xs : List (Int × ByteArray)} {O : List Nat} (h : LentW w B g cap xs) (hk : Keep O w w') (hg : g ∉ O) : LentW w' B g cap xs := by
  obtain ⟨h0, h1, h2, h3, h4⟩ := h
  have hb := hk.block g h1 hg
  exact ⟨h0, Nat.lt_of_lt_of_le h1 hk.size, h2, h3, fun j x hx => ⟨(World.cell?_of_block (a := ⟨g, j * 2, none⟩) hb).trans (h4 j x hx).1, (World.cell?_of_block (a := ⟨g, j * 2 + 1, none⟩) hb).trans (h4 j x hx).2⟩⟩
theorem row_nil_cap {w : World} {base : Nat} {e : TypeId} {size n c : Nat} {p : Option Addr} {xs : List Value} (h : w.ownsRow base e size (.slice p n c) n xs) (hp : p = none) : c = 0 := by
  rcases h.2 with ⟨h, _⟩ | ⟨g, cap, cur, h, _⟩
  · injection h
  · injection h with h1 _ _
    rw [hp] at h1
    cases h1
theorem laidX_at {l : List Wr1} {k : Nat} {x : Wr1} (h : l[k]? = some x) : (laidX l (k + 1))[k]? = some (fillX x) := by
  have hk : k < l.length := by
    rcases Nat.lt_or_ge k l.length with h' | h'
    · exact h'
    · rw [List.getElem?_eq_none h'] at h; cases h
  rw [laidX_step h, List.getElem?_set_self (by rw [laidX_length]; exact hk)]
theorem WantAt.asks {m : Int} {l : List Wr1} {b : Nat} {wt : Int} {named : List Int} (h : WantAt m l b wt named) (hb : wt = 0 → b = l.length) : (wt ≠ 0 → Asks m (laidX l b) wt) ∧ (wt = 0 → 110 < named.length → Asks m (laidX l b) 21) ∧ (wt = 0 → ¬ 110 < named.length → Asks m (laidX l b) 0) := by
  refine ⟨fun h0 => .inl ⟨h0, .inl (h.bad h0)⟩, fun h0 hl => ?_, fun h0 hl => ?_⟩
  · subst h0
    obtain rfl := hb rfl
    obtain ⟨h1, h2⟩ := h.done
    rw [h2] at hl
    exact .inl ⟨by decide, .inr ⟨h1, hl, rfl⟩⟩
  · subst h0
    obtain rfl := hb rfl
    obtain ⟨h1, h2⟩ := h.done
    rw [h2] at hl
    exact .inr ⟨rfl, h1, by omega⟩

set_option maxRecDepth 100000 in
set_option maxHeartbeats 40000000 in
theorem wplays_in (N : Nat) (A : Option Addr) (c : Nat) (ds : List Op9) (at_ : Int) (w : World) (hA : Acts9 w w.heap.size A ds) (hf : ∀ d ∈ ds, d.Fits) (hn : ds.length ≤ 9223372036854775807) (h1 : 140 ≤ N) (h2 : N ≤ 400) :
    Calls Tryz.prog 3 #[.int .i64 (N : Int), .slice A ds.length c, .int .i64 at_] w fun e w' => e = .returned (.bool true) ∧ Below w.heap.size w w' := by
  have HLI := Lib.hid (light9_any A c ds w.heap.size w hA hf hn (Nat.le_refl _))
  obtain ⟨i0, hi, hz0, hz1, hz2⟩ := info_parts cltexts_info
  have HAL := Lib.hid (alive9_any)
  have HN : Hid (∀ W, Calls Tryz.prog 6 #[.int .i64 (N : Int)] W fun e w' => ∃ g O, e = .returned (.tuple #[.pointer (some ⟨g, 0, none⟩), .int .i64 0]) ∧ DiskAt w' O g (calm (List.replicate N (zeroB 256)) 0) ∧ (∀ b ∈ O, W.heap.size ≤ b) ∧ Below W.heap.size W w') := Lib.hid (fun W => dnew_yes (N : Int) N W rfl (by omega) (by omega))
  obtain ⟨z, hz⟩ : ∃ z, z = zeroB 256 := ⟨_, rfl⟩
  have HZ : Hid (∀ W, Calls Tryz.prog 8 #[.int .i64 256] W fun e w' => e = .returned (.string z) ∧ Below W.heap.size W w') := Lib.hid (fun W => by rw [hz]; exact ref_zeros 256 W (by omega))
  have HH0 : Hid (Held N 0 (List.replicate (N - 111) z) (List.replicate N z)) := Lib.hid (by rw [hz]; exact headQ_zero N ⟨h1, h2⟩)
  rw [← hz] at HN
  have HA := Lib.hid hA
  have HF := Lib.hid hf
  have HI := Lib.hid hi
  obtain ⟨n, en⟩ : ∃ n, n = ds.length := ⟨_, rfl⟩
  rw [← en] at HLI ⊢
  have HM := Lib.hid en
  obtain ⟨m, hm⟩ : ∃ m, m = N - 111 := ⟨_, rfl⟩
  have hmN : (N : Int) - 111 = (m : Int) := by omega
  have hm0 : 0 < m := by omega
  have hm1 : m ≤ 289 := by omega
  have HMM := Lib.hid hm
  rw [← hm] at HH0
  have N1 : 140 ≤ (N : Int) := by omega
  have N2 : (N : Int) ≤ 400 := by omega
  clear hA hf hn hi en hz hm
  go_enter Tryz.func3, Tryz.ntmps3
  go_wp2_with fail
  refine HLI.out.mono ?_
  rintro e w1 ⟨⟨r, rfl, hr⟩, hb1⟩
  have HB1 := Lib.hid hb1
  have HR := Lib.hid hr
  clear hr hb1 HLI
  cases r with
  | false =>
    go_wp2_with fail
    refine (HAL.out _).mono ?_
    rintro e w2 ⟨rfl, hb2⟩
    have HB2 := Lib.hid (HB1.out.trans (hb2.mono HB1.out.size))
    clear hb2
    go_wp2_with fail
    go_ret
    exact ⟨rfl, HB2.out⟩
  | true =>
  obtain ⟨hn30, hlt9⟩ := HR.out rfl
  have HLT := Lib.hid hlt9
  have hn30' : n ≤ 30 := by rw [HM.out]; exact hn30
  clear hn30 hlt9 HR
  go_wp2_with fail
  refine (HAL.out _).mono ?_
  rintro e w2 ⟨rfl, hb2⟩
  have HB2 := Lib.hid (HB1.out.trans (hb2.mono HB1.out.size))
  clear hb2 HB1
  go_wp2_with fail
  refine (HN.out _).mono ?_
  rintro e w3 ⟨gd, O, rfl, hd, hO, hb3⟩
  have HD3 := Lib.hid hd
  have HO3 : Hid (∀ b ∈ O, w.heap.size ≤ b) := Lib.hid (fun b hb => Nat.le_trans HB2.out.size (hO b hb))
  have HB3 := Lib.hid (HB2.out.trans (hb3.mono HB2.out.size))
  clear hd hO hb3 HB2
  go_wp2_with fail
  refine (open_held HD3.out rfl HH0.out).mono ?_
  rintro e w4 ⟨gw, rfl, O4, d1, d2, d3, d4, d5, d6⟩
  have HD4 := Lib.hid d1
  have HO4 : Hid (∀ b ∈ O4, w.heap.size ≤ b) := Lib.hid (fun b hb => by
    rcases d2 b hb with h | h
    · exact HO3.out b h
    · exact Nat.le_trans HB3.out.size h)
  have HW4 := Lib.hid d4
  have HGW := Lib.hid (Nat.le_trans HB3.out.size d5)
  have HGO := Lib.hid d6
  have HB4 : Hid (Below w.heap.size w w4) := Lib.hid (HB3.out.trans (d3.below HO3.out HB3.out.size))
  clear d1 d2 d3 d4 d5 d6 HD3 HO3 HB3
  go_wp2_with fail
  go_loopw [11, 12] (fun s i wr => ∃ (j : Nat) (p : Option Addr) (cp : Nat), j ≤ m ∧ i = .int .i64 j ∧ s = .slice p j cp ∧ wr.ownsRow w4.heap.size 9 1 (.slice p j cp) j ((List.replicate j z).map Value.string) ∧ Below w4.heap.size w4 wr) (fun _ i _ => m - (intOf i).toNat)
  case atStart => exact ⟨0, none, 0, Nat.zero_le _, rfl, rfl, World.ownsRow_nil _ _ _ _, Below.refl _ _⟩
  case round =>
    obtain ⟨j, p, cp, hj, rfl, rfl, hrow, hbr⟩ := hrel
    have HRW := Lib.hid hrow
    have HBR := Lib.hid hbr
    clear hrow hbr
    by_cases hlt : j < m
    · have hjI : (j : Int) < (m : Int) := by omega
      have hjI' : (j : Int) < (N : Int) - 111 := by omega
      go_wp2_with fail
      refine (HZ.out _).mono ?_
      rintro e w6 ⟨rfl, hb6⟩
      have HR6 := Lib.hid (row_below HRW.out hb6)
      have HB6 := Lib.hid (HBR.out.trans (hb6.mono HBR.out.size))
      clear hb6
      go_wp2_with (at_builtin; refine wpList_append_lies _ rfl (.tmp 66) (.tmp 68) 32 rfl w4.heap.size 9 i0 (.string .empty) 1 16 Tryz.underlying32 HI.out hz0 hz1 hz2 rfl (by omega) _ j _ rfl (HR6.out.alloc _) ⟨w6.heap.size, 0, none⟩ 1 1 [.string z] rfl rfl ?c1 ?c2 (by omega) (by unfold maxLen; omega) (by omega) (by have := HB6.out.size; simp; omega) _ rfl ?_)
      case c1 =>
        intro a u ha
        match a, ha with
        | 0, ha => simp at ha; subst ha; simp [Addr.add]
      case c2 => intro u hu; simp at hu; rcases hu with rfl; rfl
      intro g2 cap2 wB hownB hgB horB hltB
      have HRB : Hid (wB.ownsRow w4.heap.size 9 1 (.slice (some ⟨g2, 0, none⟩) (j + 1) cap2) (j + 1) ((List.replicate (j + 1) z).map Value.string)) := Lib.hid (by rw [List.map_replicate, List.replicate_succ']; exact hownB)
      have HBB : Hid (Below w4.heap.size w4 wB) := Lib.hid ((HB6.out.alloc HB6.out.size _).grown hgB (by have := HB6.out.size; simp; omega) (fun q e => (HR6.out.lt q e).1))
      clear hownB hgB horB hltB
      go_wp2_with fail
      go_roundw
      case rel => exact ⟨j + 1, some ⟨g2, 0, none⟩, cap2, by omega, by go_num, rfl, HRB.out, HBB.out⟩
      case measure => simp [intOf]; omega
    · obtain rfl : j = m := by omega
      have hjI' : ¬ (j : Int) < (N : Int) - 111 := by omega
      have hex : (N : Int) - 111 ≤ (j : Int) := by omega
      obtain ⟨gh, rfl⟩ : ∃ gh, p = some ⟨gh, 0, none⟩ := by
        obtain ⟨g, cap, e1, _⟩ := HRW.out.form hm0
        injection e1 with e1
        exact ⟨g, e1⟩
      have hgl := HRW.out.lt gh rfl
      have HAT : Hid (∃ (gw' gh' : Nat) (q k : Int) (h s : List ByteArray) (S : DS) (O' : List Nat) (ch : Nat), gw' = gw ∧ gh' = gh ∧ ch = cp ∧ q = 0 ∧ St9 N gd w wr gw' gh' q k h s S O' 0) := Lib.hid (by
        refine ⟨gw, gh, 0, 0, List.replicate j z, List.replicate N z, calm (List.replicate N z) 0, O4, cp, rfl, rfl, rfl, rfl, ⟨HD4.out.below HBR.out, clean_calm _ _, HH0.out, by show (0 : Nat) ≤ 60; omega, by show (0 : Nat) ≤ _; omega, HW4.out.below HBR.out HW4.out.lt, ⟨by omega, by omega⟩, by omega, HGO.out, HO4.out, HGW.out, ⟨hgl.2, fun t x hx => ?_⟩, Nat.le_trans HB4.out.size hgl.1, fun hm => ?_, fun e => ?_, HB4.out.trans (HBR.out.mono HB4.out.size)⟩⟩
        · exact row_cell HRW.out (by rw [List.getElem?_map, hx]; rfl)
        · have := HD4.out.lt hm; omega
        · have := HW4.out.lt; omega)
      clear hgl HRW HBR HB4 HD4 HO4 HW4 HGW HGO HH0 HZ HN
      go_wp2_with fail
      go_loopw [9, 11, 13, 14] (fun vw vh vq i wx => ∃ (a gw gh ch : Nat) (q k : Int) (h s : List ByteArray) (S : DS) (O' : List Nat), a ≤ n ∧ vw = .pointer (some ⟨gw, 0, none⟩) ∧ vh = .slice (some ⟨gh, 0, none⟩) j ch ∧ vq = .int .i64 q ∧ i = .int .i64 a ∧ St9 N gd w wx gw gh q k h s S O' a) (fun _ _ _ i _ => n - (intOf i).toNat)
      case atStart =>
        obtain ⟨gw', gh', q, k, h, s, S, O', ch, rfl, rfl, rfl, rfl, hat⟩ := HAT.out
        exact ⟨0, _, _, _, _, k, h, s, S, O', Nat.zero_le _, rfl, rfl, rfl, rfl, hat⟩
      case round =>
        obtain ⟨a, gw, gh, ch, q, k, h, s, S, O', ha, rfl, rfl, rfl, rfl, hat⟩ := hrel
        have HAJ := Lib.hid hat
        clear hat HAT
        by_cases hlt2 : a < n
        · have hal : a < ds.length := by rw [← HM.out]; exact hlt2
          obtain ⟨b, off, rfl, hbB, hbw, hc⟩ := HA.out (by omega)
          obtain ⟨d, hd⟩ : ∃ d, d = ds[a] := ⟨_, rfl⟩
          have hdj : ds[a]? = some d := by rw [hd]; exact List.getElem?_eq_getElem hal
          have hdm : d ∈ ds := by rw [hd]; exact List.getElem_mem hal
          have HDL := Lib.hid (HLT.out d hdm)
          have HDF := Lib.hid (HF.out d hdm)
          have HAT : Hid (∀ W, Below w.heap.size w W → d.at_ W b (off + a * 4) ∧ d.In W w.heap.size) := Lib.hid (fun W hW => ⟨(hc a d hdj).1.keep (O := []) (Keep.of_below hW) hbw (by simp), (hc a d hdj).2.keep (O := []) (Keep.of_below hW) (by simp)⟩)
          have HIN : Hid (∀ W, Below w.heap.size w W → d.In W w.heap.size) := Lib.hid (fun W hW => (HAT.out W hW).2)
          obtain ⟨c0, c1, c2, c3⟩ := (HAT.out wr HAJ.out.below).1
          obtain ⟨kd, da, wa, wc, ws, la, lc, ls⟩ := d
          simp only at c0 c1 c2 c3
          have haI : (a : Int) < (n : Int) := by omega
          clear hc hbw hd hdj hdm hal HAT
          go_upto_region 19 with fail
          obtain ⟨W0, hW0⟩ : ∃ W0, W0 = wr.alloc (.cells #[.int .i64 kd, .int .i64 da, .slice wa ws.length wc, .slice la ls.length lc] 37) := ⟨_, rfl⟩
          rw [← hW0]
          have hwb : Below wr.heap.size wr W0 := by rw [hW0]; exact (Below.refl _ _).alloc (Nat.le_refl _) _
          have HX : Hid (Blk W0 wr.heap.size 37 #[.int .i64 kd, .int .i64 da, .slice wa ws.length wc, .slice la ls.length lc]) := Lib.hid (by rw [hW0]; exact Blk.new wr _ _)
          have HS0 := Lib.hid (HAJ.out.calls hwb)
          have HI0 := Lib.hid (HIN.out W0 HS0.out.below)
          have x0 := HX.out.cell 0
          have x1 := HX.out.cell 1
          have x2 := HX.out.cell 2
          have x3 := HX.out.cell 3
          simp at x0 x1 x2 x3
          clear hwb hW0 c0 c1 c2 c3
          go_upto_block 4 with fail
          go_cut [9, 11, 13, 16, 17, 18, 19, 20, 21, 22, 23] from 82 to 245 (fun v9 v11 v13 _ _ _ _ _ _ _ _ wx => ∃ (gw gh ch : Nat) (q k : Int) (h s : List ByteArray) (S : DS) (O' : List Nat), v9 = .pointer (some ⟨gw, 0, none⟩) ∧ v11 = .slice (some ⟨gh, 0, none⟩) j ch ∧ v13 = .int .i64 q ∧ St9 N gd w wx gw gh q k h s S O' (a + 1))
          case first =>
            by_cases k1 : kd = 1
            · subst k1
              obtain ⟨nw, hnw⟩ : ∃ nw, nw = ws.length := ⟨_, rfl⟩
              have HNW := Lib.hid hnw
              have hnw6 : nw ≤ 6000 := by have := HDL.out.1; simp only at this; omega
              have HDZ : Hid (∀ x ∈ ws, x.2.size ≤ 6000) := Lib.hid HDL.out.2.2
              obtain ⟨i1, hi1, hy0, hy1, hy2⟩ := info_parts clwrites_info
              have HWS0 : Hid (WIn W0 wa ws) := Lib.hid HI0.out.ws.win
              have HWN : Hid (wa = none → wc = 0) := Lib.hid HI0.out.wn
              rw [← hnw] at x2
              have HAPP : Hid (∃ v W1, (Builtin.append_ #[34, 34] 34 #[.slice none 0 0, .slice wa nw wc]).run Tryz.prog W0 = .ok v W1 ∧ W1.ownsRow W0.heap.size 39 2 v nw (flatI ws) ∧ Below W0.heap.size W0 W1) := Lib.hid (by
                have hnn := HNW.out
                rcases wa with _ | ad
                · have hc := HWN.out rfl
                  subst hc
                  have hn0 : nw = 0 := by
                    rcases Nat.eq_zero_or_pos nw with h | h
                    · exact h
                    · obtain ⟨b, off, e, _⟩ := HWS0.out (by omega)
                      cases e
                  subst hn0
                  have hx : ws = [] := List.eq_nil_of_length_eq_zero hnn.symm
                  subst hx
                  exact ⟨_, W0, run_append_owned_none (P := Tryz.prog) (w := W0) W0.heap.size 34 34 39 i1 2 Tryz.underlying34 hi1 (.slice none 0 0) 0 [] (World.ownsRow_nil _ _ _ _), World.ownsRow_nil _ _ _ _, Below.refl _ _⟩
                · have hnews : ∀ (j : Nat) (u : Value), (flatI ws)[j]? = some u → W0.cell? (ad.add j) = some u := by
                    intro j u hu
                    have hj : 0 < ws.length := by
                      cases ws with
                      | nil => cases hu
                      | cons _ _ => simp
                    obtain ⟨b, off, e, hB, hc⟩ := HWS0.out hj
                    injection e with e
                    subst e
                    rw [Go.WideShapes.add_plain]
                    exact flatI_cells (f := fun j => W0.cell? ⟨b, off + j, none⟩) (fun j x hx => hc j x hx) j u hu
                  obtain ⟨v', w', hr, h2, h3, _, _⟩ := run_append_own_at (P := Tryz.prog) W0 W0.heap.size 34 34 39 i1 (.agg #[.int .i64 0, .string .empty]) 2 24 Tryz.underlying34 hi1 hy0 hy1 hy2 rfl (by omega) (.slice none 0 0) 0 [] (World.ownsRow_nil _ _ _ _) ad nw wc (flatI ws) (by rw [flatI_len, hnn]) hnews flatI_one (by unfold maxLen; omega) (by omega) (Nat.le_refl _)
                  exact ⟨v', w', hr, by simpa using h2, (Below.refl _ _).grown h3 (Nat.le_refl _) (by simp [Value.ownBlock])⟩)
              obtain ⟨v, W1, hrun, hown, hb1⟩ := HAPP.out
              obtain ⟨pv, cv, rfl, -⟩ := row_slice hown
              have HRUN := Lib.hid hrun
              have HOWN := Lib.hid hown
              have HS1 := Lib.hid (HS0.out.calls hb1)
              have HW1 := Lib.hid hb1.size
              clear hrun hown hb1 HAPP hnw x0 x1 x3
              go_upto_block 5 with (at_builtin; refine wpList_value rfl (exec_append rfl rfl rfl HRUN.out) ?_)
              have HGF : Hid (∀ g, W0.heap.size ≤ g → w.heap.size ≤ g ∧ g ∉ O' ∧ g ≠ gw ∧ g ≠ gh) := Lib.hid (fun g hg => ⟨Nat.le_trans HS0.out.below.size hg, fun hm => by have := HS0.out.disk.lt hm; omega, fun e => by have := HS0.out.wal.lt; omega, fun e => by have := HS0.out.home.1; omega⟩)
              have HOB : Hid (∀ b ∈ O', b < W0.heap.size) := Lib.hid (fun b hb => HS0.out.disk.lt hb)
              go_cut [16, 17, 19] from 103 to 161 (fun vt nm _ wx => ∃ (b : Nat) (wt : Int) (A2 : Option Addr) (c2 : Nat) (named : List Int), b ≤ nw ∧ (wt = 0 → b = nw) ∧ vt = .int .i64 wt ∧ nm = .slice A2 named.length c2 ∧ named.length ≤ 6000 ∧ WantAt (j : Int) ws b wt named ∧ wx.ownsRow W0.heap.size 39 2 (.slice pv nw cv) nw (flatI (laidX ws b)) ∧ St9 N gd w wx gw gh q k h s S O' a ∧ W0.heap.size ≤ wx.heap.size)
              case first =>
                as_aux_lemma =>
                go_wp2_with fail
                go_loopw [16, 17, 19] (fun vt nm i wr => ∃ (b : Nat) (wt : Int) (A2 : Option Addr) (c2 : Nat) (named : List Int), b ≤ nw ∧ i = .int .i64 b ∧ vt = .int .i64 wt ∧ nm = .slice A2 named.length c2 ∧ WantAt (j : Int) ws b wt named ∧ wr.ownsRow W1.heap.size 3 1 (.slice A2 named.length c2) named.length (named.map (Value.int .i64)) ∧ wr.ownsRow W0.heap.size 39 2 (.slice pv nw cv) nw (flatI (laidX ws b)) ∧ St9 N gd w wr gw gh q k h s S O' a ∧ W1.heap.size ≤ wr.heap.size) (fun _ _ i _ => nw - (intOf i).toNat)
                case atStart => exact ⟨0, 0, none, 0, [], Nat.zero_le _, rfl, rfl, rfl, WantAt.start _ _, World.ownsRow_nil _ _ _ _, by rw [laidX_zero]; exact HOWN.out, HS1.out, Nat.le_refl _⟩
                case round =>
                  obtain ⟨b, wt, A2, c2, named, hb, rfl, rfl, rfl, hwt, hnr, hrow, hst, hsz⟩ := hrel
                  have HWT := Lib.hid hwt
                  have HNR := Lib.hid hnr
                  have HRW := Lib.hid hrow
                  have HST := Lib.hid hst
                  have HSZ := Lib.hid hsz
                  clear hwt hnr hrow hst hsz
                  by_cases hgo : b < nw ∧ wt = 0
                  · obtain ⟨hlt3, rfl⟩ := hgo
                    have hbl : b < ws.length := by rw [← HNW.out]; exact hlt3
                    obtain ⟨x, hx⟩ : ∃ x, x = ws[b] := ⟨_, rfl⟩
                    have hxj : ws[b]? = some x := by rw [hx]; exact List.getElem?_eq_getElem hbl
                    have HXJ := Lib.hid hxj
                    have HXZ : Hid (x.2.size ≤ 6000) := Lib.hid (HDZ.out x (List.mem_of_getElem? hxj))
                    obtain ⟨gv, rfl, hgv0, hgv1, hgc⟩ := wrow_cells HRW.out (by omega)
                    obtain ⟨d0, d1⟩ := hgc b x (laidX_get hxj)
                    have HGV := Lib.hid (And.intro hgv0 hgv1)
                    have HGW : Hid (gv < W1.heap.size) := Lib.hid (HOWN.out.lt gv rfl).2
                    have hbI : (b : Int) < (nw : Int) := by omega
                    have HFY : Hid (x.2.size < 60 → flatI (laidX ws (b + 1)) = (flatI (laidX ws b)).set (b * 2 + 1) (.string (fillB x.2))) := Lib.hid (fun h => by
                      rw [laidX_step hxj]
                      have e : fillX x = (x.1, fillB x.2) := by unfold fillX; rw [if_pos h]
                      rw [e]
                      exact flatI_set (laidX_get hxj) rfl)
                    have HFN : Hid (¬ x.2.size < 60 → laidX ws (b + 1) = laidX ws b) := Lib.hid (fun h => by
                      rw [laidX_step hxj]
                      have e : fillX x = x := by unfold fillX; rw [if_neg h]
                      rw [e]
                      have hlt := laidX_get hxj
                      refine List.ext_getElem? fun t => ?_
                      by_cases ht : b = t
                      · subst ht
                        rw [List.getElem?_set_self (by rw [laidX_length]; exact hbl), hlt]
                      · rw [List.getElem?_set_ne ht])
                    clear hx hxj hgc hgv0 hgv1 hbl
                    obtain ⟨xi, xb⟩ := x
                    simp only at d0 d1
                    go_upto_if 119 with fail
                    go_cut [19] from 113 to 129 (fun v19 wx => v19 = .int .i64 b ∧ wx.ownsRow W1.heap.size 3 1 (.slice A2 named.length c2) named.length (named.map (Value.int .i64)) ∧ wx.ownsRow W0.heap.size 39 2 (.slice (some ⟨gv, 0, none⟩) nw cv) nw (flatI (laidX ws (b + 1))) ∧ St9 N gd w wx gw gh q k h s S O' a ∧ W1.heap.size ≤ wx.heap.size)
                    case first =>
                      by_cases h60 : xb.size < 60
                      · have h60I : (xb.size : Int) < 60 := by omega
                        have HY := Lib.hid h60
                        go_wp2_with fail
                        refine (fill_any xb _ (by have : xb.size ≤ 6000 := HXZ.out; omega)).mono ?_
                        rintro e w2 ⟨rfl, hb2⟩
                        have HR2 := Lib.hid (row_below HRW.out hb2)
                        have HN2 := Lib.hid (row_below HNR.out hb2)
                        have HS2 := Lib.hid (HST.out.calls hb2)
                        have HZ2 : Hid (W1.heap.size ≤ w2.heap.size) := Lib.hid (Nat.le_trans HSZ.out hb2.size)
                        have e1 : w2.cell? ⟨gv, b * 2 + 1, none⟩ = some (.string xb) := (hb2.cell (p := ⟨gv, b * 2 + 1, none⟩) HGV.out.2).trans d1
                        have q1 := row_frozen HR2.out (b * 2 + 1)
                        clear d0 d1 hb2 h60 h60I
                        go_wp2_with fail
                        go_meet
                        obtain ⟨f1, f2, f3, f4⟩ := HGF.out gv HGV.out.1
                        refine ⟨rfl, row_far HN2.out (fun e => ?_) _, ?_, HS2.out.keep ((Keep.refl _ _).put (.inl (by simp)) _ _) f1 f2 f3 f4, ?_⟩
                        · have := (HN2.out.lt gv e).1
                          have := HGW.out
                          omega
                        · rw [HFY.out HY.out]
                          exact wrow_putN HR2.out _
                        · rw [World.size_setCell]
                          exact HZ2.out
                      · have h60I : ¬ (xb.size : Int) < 60 := by omega
                        have HY := Lib.hid h60
                        clear h60
                        go_wp2_with fail
                        go_meet
                        exact ⟨rfl, HNR.out, by rw [HFN.out HY.out]; exact HRW.out, HST.out, HSZ.out⟩
                    case rest =>
                    obtain ⟨rfl, hnr2, hrow2, hst2, hsz2⟩ := hcut
                    have HNR2 := Lib.hid hnr2
                    have HRW2 := Lib.hid hrow2
                    have HST2 := Lib.hid hst2
                    have HSZ2 := Lib.hid hsz2
                    obtain ⟨g', e', _, _, hgc2⟩ := wrow_cells hrow2 (by omega)
                    obtain rfl : gv = g' := by injection e' with e'; injection e'
                    obtain ⟨c0, c1⟩ := hgc2 b _ (laidX_at HXJ.out)
                    rw [fillX_fst] at c0
                    obtain ⟨xf, hxf⟩ : ∃ xf, xf = (fillX (xi, xb)).2 := ⟨_, rfl⟩
                    rw [← hxf] at c1
                    simp only at c0
                    have HXF := Lib.hid hxf
                    clear d0 d1 e' hgc2 hnr2 hrow2 hst2 hsz2 hxf HRW HNR HST HSZ HFY HFN
                    by_cases hx0 : xi < 0
                    · have HW' := Lib.hid (HWT.out.range HXJ.out (by simp only; omega))
                      go_wp2_with fail
                      go_roundw
                      case rel => exact ⟨b + 1, 15, A2, c2, named, by omega, by go_num, rfl, rfl, HW'.out, HNR2.out, HRW2.out, HST2.out, HSZ2.out⟩
                      case measure => simp [intOf]; omega
                    by_cases hx1 : (j : Int) ≤ xi
                    · have HW' := Lib.hid (HWT.out.range HXJ.out (by simp only; omega))
                      go_wp2_with fail
                      go_roundw
                      case rel => exact ⟨b + 1, 15, A2, c2, named, by omega, by go_num, rfl, rfl, HW'.out, HNR2.out, HRW2.out, HST2.out, HSZ2.out⟩
                      case measure => simp [intOf]; omega
                    by_cases hx2 : xf.size = 256
                    · have hx2I : (xf.size : Int) = 256 := by omega
                      have HW' := Lib.hid (HWT.out.good HXJ.out (by simp only; omega) (by rw [← HXF.out]; exact hx2))
                      have HPT := Lib.hid (rput_any xi A2 c2 named.length named W1.heap.size _ rfl HNR2.out (by have := HWT.out.few; omega) HSZ2.out)
                      go_wp2_with fail
                      refine HPT.out.mono ?_
                      rintro e w7 ⟨A', c', rfl, hr7, hb7⟩
                      have HR7 := Lib.hid hr7
                      have HRB := Lib.hid (row_below HRW2.out hb7)
                      have HS7 := Lib.hid (HST2.out.calls hb7)
                      have HZ7 : Hid (W1.heap.size ≤ w7.heap.size) := Lib.hid (Nat.le_trans HSZ2.out hb7.size)
                      clear hr7 hb7 hx2 hx2I c0 c1
                      go_wp2_with fail
                      go_roundw
                      case rel => exact ⟨b + 1, 0, A', c', putL xi named, by omega, by go_num, rfl, rfl, HW'.out, HR7.out, HRB.out, HS7.out, HZ7.out⟩
                      case measure => simp [intOf]; omega
                    · have hx2I : ¬ (xf.size : Int) = 256 := by omega
                      have HW' := Lib.hid (HWT.out.size HXJ.out (by simp only; omega) (by rw [← HXF.out]; exact hx2))
                      go_wp2_with fail
                      go_roundw
                      case rel => exact ⟨b + 1, 1, A2, c2, named, by omega, by go_num, rfl, rfl, HW'.out, HNR2.out, HRW2.out, HST2.out, HSZ2.out⟩
                      case measure => simp [intOf]; omega
                  · have HEX : Hid (wt = 0 → b = nw) := Lib.hid (fun e => by omega)
                    have HFW : Hid (named.length ≤ 6000) := Lib.hid (by have := HWT.out.few; omega)
                    have HZ0 : Hid (W0.heap.size ≤ wr.heap.size) := Lib.hid (Nat.le_trans HW1.out HSZ.out)
                    by_cases hbn : b < nw
                    · have hbI : (b : Int) < (nw : Int) := by omega
                      have hw0 : ¬ wt = 0 := fun e => hgo ⟨hbn, e⟩
                      clear hgo
                      go_wp2_with fail
                      go_meet
                      exact ⟨b, wt, A2, c2, named, hb, HEX.out, rfl, rfl, HFW.out, HWT.out, HRW.out, HST.out, HZ0.out⟩
                    · have hbI : ¬ (b : Int) < (nw : Int) := by omega
                      clear hgo
                      go_wp2_with fail
                      go_meet
                      exact ⟨b, wt, A2, c2, named, hb, HEX.out, rfl, rfl, HFW.out, HWT.out, HRW.out, HST.out, HZ0.out⟩
              case rest =>
              obtain ⟨b, wt, A2, c2, named, hb, hwb, rfl, rfl, hnl, hwt, hrow, hst, hsz⟩ := hcut
              have HAS := Lib.hid (hwt.asks (fun e => by rw [hwb e]; exact HNW.out))
              obtain ⟨L, hL⟩ : ∃ L, L = laidX ws b := ⟨_, rfl⟩
              rw [← hL] at hrow HAS
              have HLL : Hid (L.length = nw) := Lib.hid (by rw [hL, laidX_length, HNW.out])
              have HRW := Lib.hid hrow
              have HST := Lib.hid hst
              have HSZ := Lib.hid hsz
              clear hrow hst hsz hwt hwb hb hL HOWN HS1
              obtain ⟨bb, hbb⟩ : ∃ bb : Bool, bb = decide (wt = 0 ∧ 110 < named.length) := ⟨_, rfl⟩
              have HBB := Lib.hid hbb
              clear hbb
              go_upto_region 40 with fail
              go_cut [168] from 162 to 167 (fun v wx => v = .bool bb ∧ wx = wc)
              case first =>
                by_cases hw0 : wt = 0
                · subst hw0
                  by_cases hl : 110 < named.length
                  · have hlI : (110 : Int) < (named.length : Int) := by omega
                    have hb1 : bb = true := by rw [HBB.out]; exact decide_eq_true ⟨rfl, hl⟩
                    subst hb1
                    go_wp2_with fail
                    go_meet
                    exact ⟨rfl, rfl⟩
                  · have hlI : ¬ (110 : Int) < (named.length : Int) := by omega
                    have hb1 : bb = false := by rw [HBB.out]; exact decide_eq_false (fun h => hl h.2)
                    subst hb1
                    go_wp2_with fail
                    go_meet
                    exact ⟨rfl, rfl⟩
                · have hb1 : bb = false := by rw [HBB.out]; exact decide_eq_false (fun h => hw0 h.1)
                  subst hb1
                  go_wp2_with fail
                  go_meet
                  exact ⟨rfl, rfl⟩
              case rest =>
              obtain ⟨rfl, hww⟩ := hcut
              subst hww
              obtain ⟨W, hW⟩ : ∃ W, W = wc := ⟨_, rfl⟩
              subst hW
              go_upto_if 168 with fail
              go_cut [16] from 162 to 167 (fun v wx => ∃ e0, v = .int .i64 e0 ∧ Asks (j : Int) L e0 ∧ wx = W)
              case first =>
                cases bb with
                | true =>
                  have HA1 : Hid (Asks (j : Int) L 21) := Lib.hid (by
                    have := of_decide_eq_true HBB.out.symm
                    exact HAS.out.2.1 this.1 this.2)
                  go_wp2_with fail
                  go_meet
                  exact ⟨21, rfl, HA1.out, rfl⟩
                | false =>
                  have HA1 : Hid (Asks (j : Int) L wt) := Lib.hid (by
                    have := of_decide_eq_false HBB.out.symm
                    by_cases h0 : wt = 0
                    · have h1 := HAS.out.2.2 h0 (fun h => this ⟨h0, h⟩)
                      rw [h0]
                      exact h1
                    · exact HAS.out.1 h0)
                  go_wp2_with fail
                  go_meet
                  exact ⟨wt, rfl, HA1.out, rfl⟩
              case rest =>
              obtain ⟨e0, rfl, hask, hww⟩ := hcut
              subst hww
              have HASK := Lib.hid hask
              clear hask HAS HBB
              have HLE : Hid (Calls Tryz.prog 11 #[.slice pv nw cv] wc fun e w' => ∃ g cap, e = .returned (.slice (some ⟨g, 0, none⟩) nw cap) ∧ LentW w' wc.heap.size g cap L ∧ Below wc.heap.size wc w') := Lib.hid (wlent_any pv nw cv L wc HLL.out (wrow_win HRW.out HLL.out) (by omega) (fun e => row_nil_cap HRW.out e))
              go_wp2_with fail
              refine HLE.out.mono ?_
              rintro e w5 ⟨g5, cap5, rfl, hl5, hb5⟩
              have HL5 := Lib.hid hl5
              have HS5 := Lib.hid (HST.out.calls hb5)
              have HR5 := Lib.hid (row_below HRW.out hb5)
              have HG5 : Hid (W0.heap.size ≤ g5) := Lib.hid (Nat.le_trans HSZ.out hl5.1)
              have HCM := Lib.hid (commit9 (e0 := e0) HS5.out (by omega) HL5.out (fun b hb => Nat.lt_of_lt_of_le (HOB.out b hb) HSZ.out) HLL.out hnw6 (by rw [hmN]; exact HASK.out))
              clear hl5 hb5 HLE HST HRW
              go_wp2_with fail
              refine HCM.out.mono ?_
              rintro e w6 ⟨E, rfl, hk6, hcase⟩
              have HCASE := Lib.hid hcase
              have HN6 : Hid (∀ g, W0.heap.size ≤ g → g ∉ gw :: O') := Lib.hid (fun g hg hm => by
                rcases List.mem_cons.1 hm with h | h
                · exact (HGF.out g hg).2.2.1 h
                · exact (HGF.out g hg).2.1 h)
              have HR6 := Lib.hid (row_keep HR5.out hk6 (fun b hb => HN6.out b (HR5.out.lt b hb).1))
              have HSY : Hid (Calls Tryz.prog 13 #[.slice (some ⟨g5, 0, none⟩) nw cap5, .slice pv nw cv] w6 fun e w' => e = .returned (.bool true) ∧ ∃ n, w' = w6.drewN n) := Lib.hid (wstays_any g5 cap5 pv nw cv L _ w6 HLL.out (lent_keep HL5.out hk6 (HN6.out g5 HG5.out)) (wrow_win HR6.out HLL.out) (by omega))
              clear hk6 hcase HCM HL5 HS5
              go_wp2_with fail
              refine HSY.out.mono ?_
              rintro e w7 ⟨rfl, d7, hd7⟩
              have HB7 : Hid (Below w6.heap.size w6 w7) := Lib.hid (by rw [hd7]; exact ⟨rfl, rfl, rfl, Nat.le_refl _, fun _ _ => rfl⟩)
              have HR7 := Lib.hid (row_below HR6.out HB7.out)
              clear hd7 HSY HR6
              rcases HCASE.out with ⟨h0, rfl, O7, hs7⟩ | ⟨rfl, rfl, q', k', s', S', O7, hq1, hq2, ho7⟩ | ⟨rfl, rfl, S', Y, O7, hd2, hd7⟩
              · as_aux_lemma =>
                have h0' : (E == 0) = false := by simp [h0]
                have HS7 := Lib.hid (hs7.calls HB7.out)
                clear hs7 HCASE
                go_wp2_with fail
                go_meet
                exact ⟨gw, gh, ch, q, k, h, s, S, O7, rfl, rfl, rfl, HS7.out⟩
              · as_aux_lemma =>
                have HO7 := Lib.hid (ho7.calls HB7.out)
                have HHL : Hid (h.length = N - 111) := Lib.hid HAJ.out.held.hlen
                have HOK : Hid (∀ x ∈ L, 0 ≤ x.1 ∧ x.1 < (N : Int) - 111) := Lib.hid (fun x hx => by
                  rcases HASK.out with ⟨h0, _⟩ | ⟨_, h1, _⟩
                  · exact absurd rfl h0
                  · have := refE_ok h1 x hx
                    rw [hmN]
                    exact ⟨this.1, this.2.1⟩)
                have HAF := Lib.hid (after9 (ch := ch) (cl := cv) HO7.out HHL.out HLL.out hnw6 (wrow_win HR7.out HLL.out) HOK.out)
                rw [← HMM.out] at HAF
                have HQ := Lib.hid (And.intro hq1 hq2)
                have HQB : Hid (0 ≤ q ∧ q ≤ 30) := Lib.hid ⟨HAJ.out.held.seq.1, by have := HAJ.out.qj; omega⟩
                clear ho7 HCASE hq1 hq2
                go_wp2_with fail
                refine HAF.out.mono ?_
                rintro e w8 ⟨g8, cap8, rfl, hs8⟩
                have HS8 := Lib.hid hs8
                have HSQ := Lib.hid (wseq_any hs8.wal)
                clear hs8 HAF
                by_cases hn0 : nw = 0
                · have hnI : ¬ (0 : Int) < (nw : Int) := by omega
                  have hnI' : ¬ 0 < nw := by omega
                  obtain rfl : q' = q := HQ.out.2 hn0
                  clear HQ hn0
                  go_wp2_with fail
                  refine HSQ.out.mono ?_
                  rintro e w9 ⟨rfl, rfl⟩
                  go_wp2_with fail
                  go_meet
                  exact ⟨gw, g8, cap8, q', k', _, s', S', O7, rfl, rfl, rfl, HS8.out⟩
                · have hnI : (0 : Int) < (nw : Int) := by omega
                  have hnI' : 0 < nw := by omega
                  obtain rfl : q' = q + 1 := HQ.out.1 hnI'
                  have hqw : IntKind.i64.wrap (q + 1) = q + 1 := by have := HQB.out; exact IntWalk.i64_in _ (by omega)
                  clear HQ hn0
                  go_wp2_with fail
                  refine HSQ.out.mono ?_
                  rintro e w9 ⟨rfl, rfl⟩
                  go_wp2_with fail
                  go_meet
                  exact ⟨gw, g8, cap8, q + 1, k', _, s', S', O7, rfl, rfl, rfl, HS8.out⟩
              · as_aux_lemma =>
                have HD7 := Lib.hid (hd7.calls HB7.out)
                have HHL : Hid (h.length = N - 111) := Lib.hid HAJ.out.held.hlen
                have HOK : Hid (∀ x ∈ L, 0 ≤ x.1 ∧ x.1 < (N : Int) - 111) := Lib.hid (fun x hx => by
                  rcases HASK.out with ⟨h0, _⟩ | ⟨_, h1, _⟩
                  · exact absurd rfl h0
                  · have := refE_ok h1 x hx
                    rw [hmN]
                    exact ⟨this.1, this.2.1⟩)
                have HON : Hid (Calls Tryz.prog 16 #[.pointer (some ⟨gd, 0, none⟩)] w7 fun e w' => e = .returned (.bool false) ∧ w7 = w') := Lib.hid (by
                  have := don_any HD7.out.disk
                  rw [HD7.out.dead.off] at this
                  exact this)
                have HUP := Lib.hid (wup_any HD7.out.wal)
                have HCD := Lib.hid (wcommit_down (m := nw) (c := cv) pv HD7.out.wal)
                have HAG := Lib.hid (again9 HD7.out (by omega) HHL.out)
                clear hd7 HCASE
                go_wp2_with fail
                refine HON.out.mono ?_
                rintro e w8 ⟨rfl, rfl⟩
                go_wp2_with fail
                refine HUP.out.mono ?_
                rintro e w8 ⟨rfl, rfl⟩
                go_wp2_with fail
                refine HCD.out.mono ?_
                rintro e w8 ⟨rfl, rfl⟩
                have HRO : Hid (∀ b, (Value.slice pv nw cv).ownBlock = some b → b ∉ O7) := Lib.hid (fun b hb hm => by
                  have h1 := HR5.out.lt b hb
                  rcases hd2 b hm with h2 | h2
                  · exact (HGF.out b h1.1).2.1 h2
                  · omega)
                clear hd2
                go_wp2_with fail
                refine HAG.out.mono ?_
                rintro e w9 ⟨g9, rfl, hk9, q', h', Z, S9, O9, ho9, hh9⟩
                have HR9 := Lib.hid (row_keep HR7.out hk9 HRO.out)
                have HO9 := Lib.hid ho9
                have HH9 := Lib.hid hh9
                have HIS := Lib.hid (is9 ho9 HHL.out ch)
                rw [← HMM.out] at HIS
                clear ho9 hh9 hk9 HAG HRO HR7
                go_wp2_with fail
                refine HIS.out.mono ?_
                rintro e w10 ⟨⟨r, rfl, hr1, hr2⟩, hb10⟩
                have HO10 := Lib.hid (HO9.out.calls hb10)
                have HR10 := Lib.hid (row_below HR9.out hb10)
                have HR1 := Lib.hid hr1
                have HR2 := Lib.hid hr2
                clear hb10 hr1 hr2 HIS HO9 HR9
                cases r with
                | true =>
                  obtain rfl := HR1.out rfl
                  have HSQ := Lib.hid (wseq_any HO10.out.wal)
                  go_wp2_with fail
                  refine HSQ.out.mono ?_
                  rintro e w11 ⟨rfl, rfl⟩
                  go_wp2_with fail
                  go_meet
                  exact ⟨g9, gh, ch, q', 0, _, Z, S9, O9, rfl, rfl, rfl, HO10.out.on⟩
                | false =>
                  have hse : h' = setI h L := by
                    rcases HH9.out with h1 | h1
                    · exact absurd h1 (HR2.out rfl)
                    · exact h1
                  subst hse
                  have HAF := Lib.hid (after9 (ch := ch) (cl := cv) HO10.out HHL.out HLL.out hnw6 (wrow_win HR10.out HLL.out) HOK.out)
                  rw [← HMM.out] at HAF
                  go_wp2_with fail
                  refine HAF.out.mono ?_
                  rintro e w11 ⟨g8, cap8, rfl, hs8⟩
                  have HS8 := Lib.hid hs8
                  have HSQ := Lib.hid (wseq_any hs8.wal)
                  clear hs8 HAF
                  go_wp2_with fail
                  refine HSQ.out.mono ?_
                  rintro e w12 ⟨rfl, rfl⟩
                  go_wp2_with fail
                  go_meet
                  exact ⟨g9, g8, cap8, q', 0, _, Z, S9, O9, rfl, rfl, rfl, HS8.out⟩
            by_cases k2 : kd = 2
            · as_aux_lemma =>
              subst k2
              have HCR : Hid (Calls Tryz.prog 20 #[.pointer (some ⟨gd, 0, none⟩), .slice la ls.length lc] W0 fun e w' => ∃ k, e = .returned (.int .i64 k) ∧ Turns O' gd (S.crash ls) W0 w') := Lib.hid (by
                refine (dcrash_any la ls.length lc ls HS0.out.disk HS0.out.clean.ok rfl HI0.out.ls.ints (HI0.out.ls.far HS0.out.own)).mono ?_
                rintro e w' ⟨rfl, h⟩
                exact ⟨_, rfl, h⟩)
              clear x0 x1 x2 k1
              go_wp2_with fail
              refine HCR.out.mono ?_
              rintro e w7 ⟨k7, rfl, O7, d1, d2, d3⟩
              have HO7 : Hid (∀ b ∈ O7, w.heap.size ≤ b) := Lib.hid (fun b hb => by
                rcases d2 b hb with h | h
                · exact HS0.out.own b h
                · exact Nat.le_trans HS0.out.below.size h)
              have HB7 : Hid (Below w.heap.size w w7) := Lib.hid (HS0.out.below.trans (d3.below HS0.out.own HS0.out.below.size))
              have HG7 : Hid (HomeAt w7 gh h ∧ gh ∉ O7) := Lib.hid ⟨HS0.out.home.keep d3 HS0.out.ghO, fun hm => by
                rcases d2 gh hm with h | h
                · exact HS0.out.ghO h
                · have := HS0.out.home.1; omega⟩
              have HAG := Lib.hid (again_held d1 (HS0.out.clean.crash ls) HS0.out.held)
              clear d1 d2 d3 HCR x3
              go_wp2_with fail
              refine HAG.out.mono ?_
              rintro e w8 ⟨gv, rfl, ho⟩
              have HST : Hid (∃ O8, St9 N gd w w8 gv gh q 0 h s (calm s (S.crash ls).writes) O8 (a + 1)) := Lib.hid (ho.st HO7.out HB7.out HG7.out.1 HS0.out.ghB HG7.out.2 (clean_calm _ _) HS0.out.held (by show (0 : Nat) ≤ 60; omega) (by show (S.crash ls).writes ≤ _; rw [crash_writes]; have := HS0.out.few; omega) (by have := HS0.out.qj; omega))
              clear ho HAG
              go_wp2_with fail
              go_meet
              obtain ⟨O8, hst⟩ := HST.out
              exact ⟨gv, gh, ch, q, 0, h, s, _, O8, rfl, rfl, rfl, hst⟩
            by_cases k3 : kd = 3
            · as_aux_lemma =>
              subst k3
              obtain ⟨am, ham⟩ : ∃ am : Int, am = min (max da 0) 60 := ⟨_, rfl⟩
              have ham0 : 0 ≤ am ∧ am ≤ 60 := by omega
              have HAM := Lib.hid ham0
              have HARM : Hid (Calls Tryz.prog 21 #[.pointer (some ⟨gd, 0, none⟩), .int .i64 am, .slice la ls.length lc] W0 fun e w' => e = .returned (.tuple #[]) ∧ Turns O' gd (S.arm am ls) W0 w') := Lib.hid (darm_any am la ls.length lc ls HS0.out.disk rfl HI0.out.ls.ints HI0.out.ln (by have := HDL.out.2.1; simp only at this; omega))
              rw [ham] at HARM
              clear ham0 x0 x2 k1 k2
              go_wp2_with fail
              refine HARM.out.mono ?_
              rintro e w7 ⟨rfl, hT⟩
              rw [← ham] at hT
              have HST : Hid (∃ O8, St9 N gd w w7 gw gh q k h s (S.arm am ls) O8 (a + 1)) := Lib.hid (by
                obtain ⟨O8, h8⟩ := HS0.out.turned hT (HS0.out.clean.armed HAM.out.1 ls) (by rw [arm_left HAM.out.1]; have := HAM.out.2; omega) (arm_writes _ _ _)
                exact ⟨O8, h8.next⟩)
              clear hT HARM ham
              go_wp2_with fail
              go_meet
              obtain ⟨O8, hst⟩ := HST.out
              exact ⟨gw, gh, ch, q, k, h, s, _, O8, rfl, rfl, rfl, hst⟩
            · as_aux_lemma =>
              have HOP := Lib.hid (open_held HS0.out.disk HS0.out.clean.on (by rw [HS0.out.clean.now]; exact HS0.out.held))
              clear x0 x1 x2 x3
              go_wp2_with fail
              refine HOP.out.mono ?_
              rintro e w8 ⟨gv, rfl, ho⟩
              have HST : Hid (∃ O8, St9 N gd w w8 gv gh q 0 h s S O8 (a + 1)) := Lib.hid (ho.st HS0.out.own HS0.out.below HS0.out.home HS0.out.ghB HS0.out.ghO HS0.out.clean HS0.out.held HS0.out.left (by have := HS0.out.few; omega) (by have := HS0.out.qj; omega))
              clear ho HOP
              go_wp2_with fail
              go_meet
              obtain ⟨O8, hst⟩ := HST.out
              exact ⟨gv, gh, ch, q, 0, h, s, _, O8, rfl, rfl, rfl, hst⟩
          case rest =>
          as_aux_lemma =>
          obtain ⟨gv, gk, cv, qv, kv, hv, sv, SV, OV, rfl, rfl, rfl, hst⟩ := hcut
          have HST := Lib.hid hst
          have HLEN : Hid (hv.length = j) := Lib.hid (by rw [hst.held.hlen, HMM.out])
          have HNL : Hid (SV.now.length = N) := Lib.hid (by rw [hst.clean.now, hst.held.len])
          have HSM : Hid (∀ x ∈ SV.now, x.size ≤ 100000) := Lib.hid (fun x hx => by rw [hst.clean.now] at hx; have := hst.held.small x hx; omega)
          have HIS : Hid (Calls Tryz.prog 19 #[.pointer (some ⟨gv, 0, none⟩), .slice (some ⟨gk, 0, none⟩) j cv] wc fun e w' => e = .returned (.bool true) ∧ Below wc.heap.size wc w') := Lib.hid (by
            have := is_any hst.wal hst.disk hst.clean.on HNL.out (by omega) (by omega) HSM.out (some ⟨gk, 0, none⟩) cv hv hst.home.txts (by rw [HLEN.out, HMM.out])
            rw [HLEN.out] at this
            refine this.mono ?_
            rintro e w' ⟨⟨r, rfl, hr⟩, hb⟩
            have : r = true := hr.2 (fun t ht => by
              rw [hst.clean.now]
              exact hst.held.home t (by rw [HLEN.out] at ht; rw [← HMM.out]; exact ht))
            rw [this]
            exact ⟨rfl, hb⟩)
          have HUP : Hid (∀ W, Below wc.heap.size wc W → Calls Tryz.prog 17 #[.pointer (some ⟨gv, 0, none⟩)] W fun e w' => e = .returned (.bool true) ∧ W = w') := Lib.hid (fun W hW => wup_any (hst.wal.below hW hst.wal.lt))
          have HRD : Hid (∀ W, Below wc.heap.size wc W → Calls Tryz.prog 22 #[.pointer (some ⟨gv, 0, none⟩), .int .i64 at_] W fun e w' => ∃ (X : ByteArray) (E : Int), e = .returned (.tuple #[.string X, .int .i64 E]) ∧ ((0 ≤ at_ ∧ at_ < (j : Int)) → E = 0) ∧ (¬ (0 ≤ at_ ∧ at_ < (j : Int)) → E = 15) ∧ Below W.heap.size W w') := Lib.hid (fun W hW => by
            refine (wread_any at_ (hst.wal.below hW hst.wal.lt) (hst.disk.below hW) HNL.out (by omega) (by omega) HSM.out).mono ?_
            rintro e w' ⟨rfl, hb⟩
            by_cases hin : 0 ≤ at_ ∧ at_ < (j : Int)
            · rw [if_pos ⟨hin.1, by omega⟩]
              refine ⟨_, _, rfl, fun _ => ?_, fun h => absurd hin h, hb⟩
              unfold DS.errR
              rw [if_pos hst.clean.on, HNL.out, if_pos ⟨by omega, by omega⟩]
            · rw [if_neg (fun h => hin ⟨h.1, by omega⟩)]
              exact ⟨_, _, rfl, fun h => absurd h hin, fun _ => rfl, hb⟩)
          clear hst HS0 HX HI0 HIN HAJ
          go_wp2_with fail
          refine HIS.out.mono ?_
          rintro e wd ⟨rfl, hbd⟩
          have HBD := Lib.hid hbd
          clear hbd
          go_wp2_with fail
          refine (HUP.out _ HBD.out).mono ?_
          rintro e we ⟨rfl, rfl⟩
          go_wp2_with fail
          refine (HRD.out _ HBD.out).mono ?_
          rintro e we ⟨X, E, rfl, hE0, hE1, hbe⟩
          have HST2 := Lib.hid (HST.out.calls (HBD.out.trans (hbe.mono HBD.out.size)))
          clear hbe
          by_cases hin : 0 ≤ at_ ∧ at_ < (j : Int)
          · obtain rfl : E = 0 := hE0 hin
            obtain ⟨hin0, hin1⟩ := hin
            clear hE0 hE1
            go_wp2_with fail
            go_roundw
            case rel => exact ⟨a + 1, gv, gk, cv, qv, kv, hv, sv, SV, OV, by omega, rfl, rfl, rfl, by go_num, HST2.out⟩
            case measure => simp [intOf]; omega
          · obtain rfl : E = 15 := hE1 hin
            clear hE0 hE1
            by_cases hneg : at_ < 0
            · have hneg' : ¬ 0 ≤ at_ := by omega
              clear hin
              go_wp2_with fail
              go_roundw
              case rel => exact ⟨a + 1, gv, gk, cv, qv, kv, hv, sv, SV, OV, by omega, rfl, rfl, rfl, by go_num, HST2.out⟩
              case measure => simp [intOf]; omega
            · have h0 : 0 ≤ at_ := by omega
              have h3 : (j : Int) ≤ at_ := by omega
              clear hin hneg
              go_wp2_with fail
              go_roundw
              case rel => exact ⟨a + 1, gv, gk, cv, qv, kv, hv, sv, SV, OV, by omega, rfl, rfl, rfl, by go_num, HST2.out⟩
              case measure => simp [intOf]; omega
        · obtain rfl : n = a := by omega
          go_wp2_with fail
          go_ret
          exact ⟨rfl, HAJ.out.below⟩
set_option maxRecDepth 100000 in
theorem wplays_out (n : Int) (v : Value) (at_ : Int) (w : World) (h : n < 140 ∨ 400 < n) :
    Calls Tryz.prog 3 #[.int .i64 n, v, .int .i64 at_] w fun e w' => e = .returned (.bool true) ∧ Below w.heap.size w w' := by
  have HAL := Lib.hid (alive9_any w)
  go_enter Tryz.func3, Tryz.ntmps3
  by_cases h1 : n < 140
  · go_wp2_with fail
    refine HAL.out.mono ?_
    rintro e w1 ⟨rfl, hb⟩
    have HB := Lib.hid hb
    clear hb
    go_wp2_with fail
    go_ret
    exact ⟨rfl, HB.out⟩
  · have h2 : 400 < n := by omega
    go_wp2_with fail
    refine HAL.out.mono ?_
    rintro e w1 ⟨rfl, hb⟩
    have HB := Lib.hid hb
    clear hb
    go_wp2_with fail
    go_ret
    exact ⟨rfl, HB.out⟩

theorem wplays_card (n : Int) (A : Option Addr) (m c : Nat) (ds : List Op9) (at_ : Int) (w : World) (_ : -9223372036854775808 ≤ n ∧ n ≤ 9223372036854775807) (i1 : Acts9In w A m ds) (_ : -9223372036854775808 ≤ at_ ∧ at_ ≤ 9223372036854775807) :
    Calls Tryz.prog 3 #[.int .i64 n, .slice A m c, .int .i64 at_] w fun e w' => e = .returned (.bool true) ∧ Below w.heap.size w w' := by
  by_cases h : n < 140 ∨ 400 < n
  · exact wplays_out n _ at_ w h
  · obtain ⟨k, rfl⟩ := Int.eq_ofNat_of_zero_le (show 0 ≤ n by omega)
    have := wplays_in k A c ds at_ w i1.lie i1.fits (by rw [i1.len]; exact i1.few) (by omega) (by omega)
    rwa [i1.len] at this
end Go.Proofs.YtbaanoomilohhaaGreatDoor
