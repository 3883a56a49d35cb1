/-
  The document's Crash and Flush. No statement is proved here.
-/
import Derived.Test.YtpepabggpappgaaPlainMem
namespace Go.Proofs.Ytpepabggpappgaa
open Go.RowKit

theorem row_cellO {w : World} {base : Nat} {e : TypeId} {size n c : Nat} {p : Option Addr} {xs : List Value} (h : w.ownsRow base e size (.slice p n c) n xs) {i : Nat} {u : Value} (hi : xs[i]? = some u) (hn : 0 < n) : ∃ g, p = some ⟨g, 0, none⟩ ∧ w.cell? ⟨g, i, none⟩ = some u ∧ w.frozen? ⟨g, i, none⟩ = false := by
  obtain ⟨g, cap, e1, _, hlt⟩ := h.form hn
  injection e1 with e1 _ e3
  subst e1 e3
  exact ⟨g, rfl, row_cell h hi, row_frozen h i⟩
theorem map_get {α : Type} {l : List α} {i : Nat} {x : α} {f : α → Value} (h : l[i]? = some x) : (l.map f)[i]? = some (f x) := by rw [List.getElem?_map, h]; rfl

set_option maxRecDepth 100000 in
set_option maxHeartbeats 4000000 in
theorem pcrash_on {w : World} {B g : Nat} {vn vs vw : Value} {nv : Int} {ka : Option Addr} {km kc : Nat} {S : DS} (A : Option Addr) (m c : Nat) (l : List Int) (h : PlainIs w B g vn vs vw nv ka km kc S) (hok : S.Ok) (hon : S.on = true) (hl : l.length = m) (hA : Low w B A l) (hns : 0 < S.safe.length ∧ S.safe.length ≤ 100000) :
    Calls Try.prog 32 #[.pointer (some ⟨g, 0, none⟩), .slice A m c] w fun e w' => e = .returned (.int .i64 (S.lost l : Int)) ∧ TurnsP B (g :: (vn.ownBlock.toList ++ (vs.ownBlock.toList ++ vw.ownBlock.toList))) g (S.crash l) w w' := by
  obtain ⟨pn, cn, rfl, -⟩ := row_slice h.now
  obtain ⟨ps, cs, rfl, -⟩ := row_slice h.safe
  obtain ⟨pw, cw, rfl, hcw, hcw2, -⟩ := row_slice h.dirty
  obtain ⟨gs, cs', e, hBs, _⟩ := h.safe.form hns.1
  injection e with e1 _ e3
  subst e1 e3
  have R1 : S.lost l = lostN l 0 S.dirty := by unfold DS.lost; rw [if_pos hon]
  have R2 : S.crash l = { now := keptL l 0 S.dirty S.safe, safe := keptL l 0 S.dirty S.safe, dirty := [], on := false, writes := S.writes, armed := false, left := 0, keep := [] } := by unfold DS.crash; rw [if_pos hon]
  rw [R1, R2]
  have H := Lib.hid h
  have HOK := Lib.hid hok
  have HA := Lib.hid hA
  have HL := Lib.hid hl
  have HNS1 := Lib.hid hns
  have ha := h.apart
  simp only [List.nodup_cons, List.mem_append, not_or] at ha
  have HGS : Hid (g ≠ gs) := Lib.hid (fun e => ha.1.2.1 (by rw [e]; simp [Value.ownBlock]))
  have HGW : Hid (∀ gw, pw = some ⟨gw, 0, none⟩ → gw ≠ gs) := Lib.hid (fun gw e1 e2 => by
    have h2 := (List.nodup_append.1 (List.nodup_append.1 ha.2).2.1).2.2 gs (by simp [Value.ownBlock]) gs (by rw [e1, e2]; simp [Value.ownBlock])
    exact h2 rfl)
  have HBS := Lib.hid hBs
  have c3 := h.blk.cell 3
  simp [hon] at c3
  obtain ⟨n, hn⟩ : ∃ n, n = S.dirty.length := ⟨_, rfl⟩
  obtain ⟨ns, hnss⟩ : ∃ ns, ns = S.safe.length := ⟨_, rfl⟩
  have hgl := h.blk.lt
  have HDN := Lib.hid hn
  have HNS := Lib.hid hnss
  have hnI : (n : Int) ≤ 9223372036854775807 := by omega
  have hs0 := h.safe
  rw [← hnss] at hs0
  have HS0 := Lib.hid hs0
  rw [← hn, ← hnss] at H
  rw [← hn, ← hnss]
  clear hs0 ha h hok hon hl hA hn hnss hcw hcw2 hns hBs R1 R2
  go_enter Try.func32, Try.ntmps32
  go_wp2_with fail
  go_loopw [5, 6] (fun v i wr => ∃ j : Nat, j ≤ n ∧ i = .int .i64 j ∧ v = .int .i64 (lostN l 0 (S.dirty.take j) : Int) ∧ Keep [gs] w wr ∧ wr.ownsRow B 9 1 (.slice (some ⟨gs, 0, none⟩) ns cs) ns ((keptL l 0 (S.dirty.take j) S.safe).map Value.string)) (fun _ i _ => n - (intOf i).toNat)
  case atStart => exact ⟨0, Nat.zero_le _, rfl, rfl, Keep.refl _ _, by simpa [keptL] using HS0.out⟩
  case round =>
    obtain ⟨j, hj, rfl, rfl, hk, hrow⟩ := hrel
    have HK := Lib.hid hk
    have HR := Lib.hid hrow
    clear hk hrow
    have hgr : g < wr.heap.size := Nat.lt_of_lt_of_le hgl HK.out.size
    have HB : Hid (Blk wr g 58 _) := Lib.hid ((HK.out.block g hgl (by simp; exact HGS.out)).trans H.out.blk)
    have k1 := HB.out.cell 1
    have k2 := HB.out.cell 2
    simp at k1 k2
    obtain ⟨L, hL⟩ : ∃ L, L = lostN l 0 (S.dirty.take j) := ⟨_, rfl⟩
    have HLQ := Lib.hid hL
    have HLB : Hid (L ≤ j) := Lib.hid (by have h1 := lostN_le l 0 (S.dirty.take j); rw [List.length_take, ← hL] at h1; omega)
    rw [← hL]
    clear hL
    by_cases hlt : j < n
    · have hjd : j < S.dirty.length := by rw [← HDN.out]; exact hlt
      obtain ⟨x, hx⟩ : ∃ x, x = S.dirty[j] := ⟨_, rfl⟩
      have hxj : S.dirty[j]? = some x := by rw [hx]; exact List.getElem?_eq_getElem hjd
      have hxf : x.1 < ns := by rw [HNS.out]; exact HOK.out.fits x (by rw [hx]; exact List.getElem_mem hjd)
      have hdr : w.ownsRow B 84 2 (.slice pw n cw) n (flatW S.dirty) := by have := H.out.dirty; rw [← HDN.out] at this; exact this
      obtain ⟨gw, cw', e, _, hgw⟩ := hdr.form (by omega)
      injection e with e1 _ e3
      subst e1 e3
      have hbw : wr.heap[gw]? = w.heap[gw]? := HK.out.block gw hgw (by simp; exact HGW.out gw rfl)
      obtain ⟨f1, f2⟩ := flatW_get hxj
      have d0 : wr.cell? ⟨gw, j * 2, none⟩ = some (.int .i64 ((x.1 : Nat) : Int)) := by
        rw [Nat.mul_comm j 2, World.cell?_of_block (a := ⟨gw, 2 * j, none⟩) hbw]; exact row_cell hdr f1
      have d1 : wr.cell? ⟨gw, j * 2 + 1, none⟩ = some (.string x.2) := by
        rw [Nat.mul_comm j 2, World.cell?_of_block (a := ⟨gw, 2 * j + 1, none⟩) hbw]; exact row_cell hdr f2
      have HE := Lib.hid (kept_next (l := l) hxj hjd S.safe)
      have HLN := Lib.hid (lost_next (l := l) hxj hjd)
      rw [← HLQ.out] at HLN
      obtain ⟨xa, xs⟩ := x
      have hxaI : (xa : Int) < (ns : Int) := by simpa using hxf
      have hjI : (j : Int) < (n : Int) := by omega
      have hLn : (L : Int) < 9223372036854775807 := by have := HLB.out; omega
      clear hx hxj hdr f1 f2 hbw
      simp only at d0 d1 hxf
      by_cases hm : j < m
      · have hml : j < l.length := by rw [HL.out]; exact hm
        obtain ⟨b, off, rfl, hbB, hbw, hcA⟩ := HA.out (by omega)
        obtain ⟨y, hy⟩ : ∃ y, y = l[j] := ⟨_, rfl⟩
        have hyj : l[j]? = some y := by rw [hy]; exact List.getElem?_eq_getElem hml
        have hyD : l.getD j 0 = y := by rw [List.getD_eq_getElem?_getD, hyj]; rfl
        have a0 : wr.cell? ⟨b, off + j, none⟩ = some (.int .i64 y) := (World.cell?_of_block (a := ⟨b, off + j, none⟩) (HK.out.block b hbw (fun hm => by have := HBS.out; have := List.mem_singleton.1 hm; omega))).trans (hcA j y hyj)
        rw [hyD] at HE HLN
        clear hy hyj hyD hcA
        by_cases hodd : oddI y = true
        · have ht := odd_and hodd
          rw [hodd, if_pos rfl] at HE HLN
          have q0 := row_cell HR.out (i := xa) (u := .string ((keptL l 0 (S.dirty.take j) S.safe).getD xa .empty)) (by
            rw [List.getElem?_map, List.getD_eq_getElem?_getD, List.getElem?_eq_getElem (by rw [keptL_length, ← HNS.out]; exact hxf)]; rfl)
          have q1 := row_frozen HR.out xa
          obtain ⟨X, hX⟩ : ∃ X, X = (keptL l 0 (S.dirty.take j) S.safe).getD xa .empty := ⟨_, rfl⟩
          rw [← hX] at q0
          clear hodd hX
          go_upto_region 8 with fail
          clear ht a0
          go_still_tail 21, (by kernel_rfl)
          change wpList _ _ _ _ _ wr.drew
          go_wp2_with fail
          go_roundw
          case rel => exact ⟨j + 1, hlt, by go_num, by rw [HLN.out]; rfl, (HK.out.drew).put (.inl (by simp)) _ _, by rw [HE.out, List.map_set]; exact row_kept (row_put HR.out (i := xa) (.string xs)) (fun _ _ => rfl)⟩
          case measure => simp [intOf]; omega
        · have ho : oddI y = false := by simpa using hodd
          have ht := even_and ho
          rw [ho, if_neg (by decide)] at HE HLN
          clear hodd ho
          go_wp2_with fail
          go_roundw
          case rel => exact ⟨j + 1, hlt, by go_num, by rw [HLN.out]; rfl, HK.out, by rw [HE.out]; exact HR.out⟩
          case measure => simp [intOf]; omega
      · have hD : oddI (l.getD j 0) = false := by
          rw [List.getD_eq_getElem?_getD, List.getElem?_eq_none (by rw [HL.out]; omega)]
          rfl
        rw [hD, if_neg (by decide)] at HE HLN
        clear hD
        go_wp2_with fail
        go_roundw
        case rel => exact ⟨j + 1, hlt, by go_num, by rw [HLN.out]; rfl, HK.out, by rw [HE.out]; exact HR.out⟩
        case measure => simp [intOf]; omega
    · obtain rfl : j = n := by omega
      have hTn : S.dirty.take j = S.dirty := List.take_of_length_le (by rw [← HDN.out]; exact Nat.le_refl _)
      rw [hTn] at HR HLQ
      obtain ⟨K, hK⟩ : ∃ K, K = keptL l 0 S.dirty S.safe := ⟨_, rfl⟩
      rw [← hK] at HR
      have HKL : Hid (K.length = ns) := Lib.hid (by rw [hK, keptL_length, HNS.out])
      have HKE := Lib.hid hK
      obtain ⟨i0, hi0, hz0, hz1, hz2⟩ := info_parts cltexts_info
      have HNW : Hid (∀ (j : Nat) (u : Value), (K.map Value.string)[j]? = some u → wr.cell? ((⟨gs, 0, none⟩ : Addr).add j) = some u) := Lib.hid (fun j u hu => by
        rw [Go.WideShapes.add_plain, Nat.zero_add]
        exact row_cell HR.out hu)
      have HON : Hid (∀ u ∈ K.map Value.string, u.oneCell' = true) := Lib.hid (fun u hu => by
        obtain ⟨x, _, rfl⟩ := List.mem_map.1 hu
        rfl)
      have HKM : Hid ((K.map Value.string).length = ns * 1) := Lib.hid (by rw [List.length_map, HKL.out]; omega)
      have hns2 : ns ≤ 100000 := by have := HNS1.out.2; have := HNS.out; omega
      clear hK hTn hlt hj
      go_upto_region 10 with fail
      have hnsp : 0 < ns := by have := HNS1.out.1; have := HNS.out; omega
      clear k2
      go_wp2_with (at_builtin; refine wpList_append_lies _ rfl (.const (.slice none 0 0)) (.tmp 62) 51 rfl wr.heap.size 9 i0 (.string .empty) 1 16 Try.underlying51 hi0 hz0 hz1 hz2 rfl (by omega) (.slice none 0 0) 0 [] rfl (World.ownsRow_nil _ _ _ _) ⟨gs, 0, none⟩ ns cs (K.map Value.string) rfl HKM.out HNW.out HON.out hnsp (by unfold maxLen; omega) (by omega) (Nat.le_refl _) _ rfl ?_; intro gq cq w1 hown1 hg1 hor hlt1; have hb1 : Blk w1 g 58 _ := (hg1.block g hgr (by simp [Value.ownBlock])).trans HB.out; have HB1 := Lib.hid hb1; have HOW := Lib.hid hown1; have HG1 := Lib.hid hg1; have k0 := hb1.cell 0; have k2 := hb1.cell 2; have k3 := hb1.cell 3; have k4 := hb1.cell 4; have f0 := hb1.frozen 0; have f2 := hb1.frozen 2; have f3 := hb1.frozen 3; have f4 := hb1.frozen 4; simp at k0 k2 k3 k4; clear hown1 hg1 hb1 hor)
      go_ret
      refine ⟨by rw [← HLQ.out]; rfl, ?_⟩
      rw [← HKE.out]
      have hgq : wr.heap.size ≤ gq := (HOW.out.lt gq rfl).1
      have hwr := HK.out.size
      have hgsl : gs < wr.heap.size := row_lt' HR.out (by simp [Value.ownBlock])
      have hk1 : Keep [] wr w1 := (Keep.refl _ _).by_in HG1.out (by intro g e; simp [Value.ownBlock] at e)
      have hk4 : Keep [g] w1 ((((w1.setCell ⟨g, 0, none⟩ (.slice (some ⟨gq, 0, none⟩) ns cq)).setCell ⟨g, 2, none⟩ (.slice none 0 0)).setCell ⟨g, 3, none⟩ (.bool true)).setCell ⟨g, 4, none⟩ (.bool false)) :=
        ((((Keep.refl _ _).put (.inl (by simp)) _ _).put (.inl (by simp)) _ _).put (.inl (by simp)) _ _).put (.inl (by simp)) _ _
      have e1 : K.length = ns := HKL.out
      have hB : B ≤ wr.heap.size := by have := H.out.low; omega
      refine ⟨g :: ((Value.slice (some ⟨gq, 0, none⟩) ns cq).ownBlock.toList ++ ((Value.slice (some ⟨gs, 0, none⟩) ns cs).ownBlock.toList ++ (Value.slice none 0 0).ownBlock.toList)), ⟨_, _, _, nv, ka, km, kc, rfl, ⟨(((HB1.out.put 0 _).put 2 _).put 3 _).put 4 _, ?_, ?_, World.ownsRow_nil _ _ _ _, (fun h => by cases h), ?_, H.out.low⟩⟩, ?_, ?_⟩
      · show World.ownsRow _ B _ 1 _ K.length (K.map Value.string)
        rw [e1]
        have := row_mono HOW.out hB
        refine row_keep ?_ hk4 (by intro k e; cases e; simp; omega)
        simpa using this
      · show World.ownsRow _ B _ 1 _ K.length (K.map Value.string)
        rw [e1]
        exact row_keep (row_keep HR.out hk1 (by simp)) hk4 (by intro k e; cases e; simp; exact fun e => HGS.out e.symm)
      · simp only [Value.ownBlock, Option.toList_some, Option.toList_none, List.append_nil, List.singleton_append, List.nodup_cons, List.mem_cons, List.not_mem_nil, or_false, not_or, List.nodup_nil, and_true, not_false_eq_true]
        exact ⟨⟨by omega, HGS.out⟩, by omega⟩
      · intro b hb
        simp only [Value.ownBlock, Option.toList_some, Option.toList_none, List.append_nil, List.singleton_append, List.mem_cons, List.not_mem_nil, or_false] at hb
        rcases hb with rfl | rfl | rfl
        · exact .inl (by simp)
        · exact .inr (by omega)
        · exact .inl (by simp [Value.ownBlock])
      · refine ((HK.out.trans hk1 (by simp)).mono ?_).trans hk4 ?_
        · intro b hb; rw [List.mem_singleton.1 hb]; exact .inl (by simp [Value.ownBlock])
        · intro b hb; rw [List.mem_singleton.1 hb]; exact .inl (by simp)

set_option maxHeartbeats 400000 in
theorem pcrash_off {w : World} {B : Nat} {O : List Nat} {g : Nat} {S : DS} (A : Option Addr) (m c : Nat) (l : List Int) (h : PlainAt w B O g S) (hon : S.on = false) :
    Calls Try.prog 32 #[.pointer (some ⟨g, 0, none⟩), .slice A m c] w fun e w' => e = .returned (.int .i64 (S.lost l : Int)) ∧ TurnsP B O g (S.crash l) w w' := by
  have R1 : S.lost l = 0 := by unfold DS.lost; rw [hon]; rfl
  have R2 : S.crash l = S := by unfold DS.crash; rw [hon]; rfl
  rw [R1, R2]
  have H := Lib.hid h
  obtain ⟨vn, vs, vw, nv, ka, km, kc, rfl, h⟩ := h
  have c3 := h.blk.cell 3
  simp [hon] at c3
  clear R1 R2 h hon
  go_enter Try.func32, Try.ntmps32
  go_wp2_with fail
  go_ret
  exact ⟨rfl, TurnsP.refl H.out⟩
theorem pcrash_any {w : World} {B : Nat} {O : List Nat} {g : Nat} {S : DS} (A : Option Addr) (m c : Nat) (l : List Int) (h : PlainAt w B O g S) (hok : S.Ok) (hl : l.length = m) (hA : Low w B A l) (hns : 0 < S.safe.length ∧ S.safe.length ≤ 100000) :
    Calls Try.prog 32 #[.pointer (some ⟨g, 0, none⟩), .slice A m c] w fun e w' => e = .returned (.int .i64 (S.lost l : Int)) ∧ TurnsP B O g (S.crash l) w w' := by
  by_cases hon : S.on = true
  · obtain ⟨vn, vs, vw, nv, ka, km, kc, rfl, h⟩ := h
    exact pcrash_on A m c l h hok hon hl hA hns
  · exact pcrash_off A m c l h (by simpa using hon)
end Go.Proofs.Ytpepabggpappgaa
