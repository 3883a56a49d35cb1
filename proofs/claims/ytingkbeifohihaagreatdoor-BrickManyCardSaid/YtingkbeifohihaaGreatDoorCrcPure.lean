/-
  The document's chapter 2 as plain functions of bytes: the check sum, what is sealed, what is opened; that one changed byte changes the sum. No Go, no memory. No statement is proved here.
-/
import Derived.Test.YtingkbeifohihaaGreatDoorDiskCalls
import Derived.Test.YtingkbeifohihaaGreatDoorMarkPure
import Derived.Test.YtingkbeifohihaaGreatDoorOuts
import Derived.Laws.BitsAllLaws
namespace Go.Proofs.YtingkbeifohihaaGreatDoor
open Go.RowKit
abbrev eA := Int × ByteArray
def jV (S : DS) : List (List eA) -> DS
 | [] => S
 | g :: r => if S.errW g = 0 then (if (S.write g).errF = 0 then jV (S.write g).flush r else (S.write g).flush) else S.write g
def lD (S : DS) : List (List eA) -> Int
 | [] => 0
 | g :: r => if S.errW g = 0 then (if (S.write g).errF = 0 then lD (S.write g).flush r else (S.write g).errF) else S.errW g
theorem DS.writeL_writes (l : List eA) : ∀ (S : DS), (S.writeL l).writes <= S.writes + l.length := by
 induction l with
 | nil => intro S; exact Nat.le_refl _
 | cons x r ih =>
   intro S
   unfold DS.writeL
   have h1 := DS.write1_writes S x.1 x.2
   split
   ·have := ih (S.write1 x.1 x.2); simp only [List.length_cons]; omega
   ·simp only [List.length_cons]; omega
theorem DS.writeL_dirty (l : List eA) : ∀ (S : DS), (S.writeL l).dirty.length <= S.dirty.length + l.length := by
 induction l with
 | nil => intro S; exact Nat.le_refl _
 | cons x r ih =>
   intro S
   unfold DS.writeL
   have h1 := DS.write1_dirty S x.1 x.2
   split
   ·have := ih (S.write1 x.1 x.2); simp only [List.length_cons]; omega
   ·simp only [List.length_cons]; omega
theorem DS.writeL_left (l : List eA) : ∀ (S : DS), (S.writeL l).left <= S.left := by
 induction l with
 | nil => intro S; exact Nat.le_refl _
 | cons x r ih =>
   intro S
   unfold DS.writeL
   have h1 := DS.write1_left S x.1 x.2
   split
   ·exact Nat.le_trans (ih (S.write1 x.1 x.2)) h1
   ·exact h1
theorem DS.writeL_len (l : List eA) : ∀ (S : DS), S.Ok -> (S.writeL l).now.length = S.now.length := by
 induction l with
 | nil => intro S _; rfl
 | cons x r ih =>
   intro S h
   unfold DS.writeL
   have h1 := DS.write1_len h x.1 x.2
   split
   ·rw [ih _ (h.write1 _ _), h1]
   ·exact h1
theorem DS.write_writes (S : DS) (l : List eA) : (S.write l).writes <= S.writes + l.length := by
 unfold DS.write; split
 ·exact DS.writeL_writes l S
 ·omega
theorem DS.write_dirty (S : DS) (l : List eA) : (S.write l).dirty.length <= S.dirty.length + l.length := by
 unfold DS.write; split
 ·exact DS.writeL_dirty l S
 ·omega
theorem DS.write_left (S : DS) (l : List eA) : (S.write l).left <= S.left := by
 unfold DS.write; split
 ·exact DS.writeL_left l S
 ·exact Nat.le_refl _
theorem DS.write_len {S : DS} (h : S.Ok) (l : List eA) : (S.write l).now.length = S.now.length := by
 unfold DS.write; split
 ·exact DS.writeL_len l S h
 ·rfl
theorem DS.flush_writes (S : DS) : S.flush.writes = S.writes := by
 unfold DS.flush
 split
 ·split
  ·exact DS.failed_writes S
  ·exact DS.failed_writes S
 ·rfl
theorem DS.flush_dirty (S : DS) : S.flush.dirty.length <= S.dirty.length := by
 unfold DS.flush
 split
 ·split
  ·exact DS.failed_dirty S
  ·exact Nat.zero_le _
 ·exact Nat.le_refl _
theorem DS.flush_left (S : DS) : S.flush.left <= S.left := by
 unfold DS.flush
 split
 ·split
  ·exact DS.failed_left S
  ·exact DS.failed_left S
 ·exact Nat.le_refl _
theorem DS.flush_len {S : DS} (h : S.Ok) : S.flush.now.length = S.now.length := by
 unfold DS.flush
 split
 ·split
  ·exact DS.failed_len h
  ·exact DS.failed_len h
 ·rfl
theorem Fq (l : List (List eA)) : ∀ (S : DS), S.Ok -> (jV S l).now.length = S.now.length := by
 induction l with
 | nil => intro S h; rfl
 | cons g r ih =>
   intro S h
   unfold jV
   split
   ·split
    ·rw [ih _ (h.write g).flush, DS.flush_len (h.write g), DS.write_len h]
    ·rw [DS.flush_len (h.write g), DS.write_len h]
   ·rw [DS.write_len h]
def Iv (l : List (List eA)) : Nat := l.foldr (fun g n => g.length + n) 0
def lE (m : Int) : List eA -> Int
 | [] => 0
 | x :: r => if 0 <= x.1 /\ x.1 < m then (if x.2.size = 256 then lE m r else 1) else 15
def gR (l : List eA) (t : Int) : ByteArray := (l.foldl (fun o x => if x.1 = t then some x.2 else o) none).getD .empty
def cR (l : List eA) : Nat -> List Int -> List eA
 | _, [] => []
 | k, t :: r => (1 + (k : Int), gR l t) :: cR l (k + 1) r
def eP (l : List eA) (ts : List Int) : List eA := ts.map fun t => (111 + t, gR l t)
theorem oQ (l : List eA) (ts : List Int) : ∀ k, (cR l k ts).length = ts.length := by
 induction ts with
 | nil => intro k; rfl
 | cons t r ih => intro k; simp [cR, ih]
theorem Db (l : List eA) (t : Int) (ts : List Int) : ∀ k, cR l k (ts ++ [t]) = cR l k ts ++ [(1 + ((k + ts.length : Nat) : Int), gR l t)] := by
 induction ts with
 | nil => intro k; simp [cR]
 | cons u r ih =>
   intro k
   simp only [List.cons_append, cR, ih, List.length_cons]
   rw [show k + 1 + r.length = k + (r.length + 1) by omega]
theorem sE (l : List eA) (ts : List Int) : (eP l ts).length = ts.length := by unfold eP; simp
theorem Iw (l : List eA) (t : Int) (ts : List Int) : eP l (ts ++ [t]) = eP l ts ++ [(111 + t, gR l t)] := by unfold eP; simp
set_option maxRecDepth 100000
set_option maxHeartbeats 4000000
theorem Tm {w w2 : World} {g gn gs cn cs : Nat} {vd vk : Value} {S : DS} (h : cW w g gn gs cn cs vd vk S) (hk : aR [gs] w w2)
  (hs : w2.ownsRow 0 9 1 (.slice (some ⟨gs, 0, none⟩) S.safe.length cs) S.safe.length ((eU S.safe S.dirty).map Value.string)) :
  cW (w2.setCell ⟨g, 2, none⟩ (.slice none 0 0)) g gn gs cn cs (.slice none 0 0) vk { S with safe := eU S.safe S.dirty, dirty := [] } := by
 have ha := h.apart
 simp only [List.nodup_cons, List.mem_cons, List.mem_append, not_or] at ha
 have l1 : (eU S.safe S.dirty).length = S.safe.length := iX _ _
 have hb : aG w2 g 107 #[.slice (some ⟨gn, 0, none⟩) S.now.length cn, .slice (some ⟨gs, 0, none⟩) S.safe.length cs, vd, .bool S.on, .int .i64 (S.writes : Int), .bool S.armed, .int .i64 (S.left : Int), vk] :=
  (hk.block g h.blk.lt (by simp; exact ha.1.2.1)).trans h.blk
 refine ⟨?_, fE (bR h.now hk ?_) ?_ _, ?_, World.ownsRow_nil _ _ _ _, fE (bR h.keep hk ?_) ?_ _, ?_⟩
 ·have := hb.put 2 (.slice none 0 0)
  rw [<- l1] at this
  exact this
 ·intro k e hm; cases e; exact ha.2.1.1 (List.mem_singleton.1 hm)
 ·intro e; cases e; exact ha.1.1 rfl
 ·rw [<- l1] at hs
  exact fE hs (by intro e; cases e; exact ha.1.2.1 rfl) _
 ·intro k e hm; exact ha.2.2.1.2 (by rw [e, <- List.mem_singleton.1 hm]; simp)
 ·intro e; exact ha.1.2.2.2 (by simp [e])
 ·refine List.Nodup.sublist ?_ h.apart
  refine List.Sublist.cons_cons _ (List.Sublist.cons_cons _ (List.Sublist.cons_cons _ ?_))
  simp [Value.ownBlock]
theorem Fx {S : DS} (h : S.fails = false) : S.failed.now = S.now /\ S.failed.safe = S.safe /\ S.failed.dirty = S.dirty := by
 unfold DS.fails at h
 unfold DS.failed
 split
 ·rename_i ha
  split
  ·exact ⟨rfl, rfl, rfl⟩
  ·rename_i h0
   rw [ha] at h
   simp at h
   omega
 ·exact ⟨rfl, rfl, rfl⟩
theorem Jf {w : World} {O : List Nat} {g : Nat} {S : DS} (h : bE w O g S) (hok : S.Ok) (hlb : S.left <= 9223372036854775807) :
  Calls Tryz.prog 93 #[.pointer (some ⟨g, 0, none⟩)] w fun e w' => e = .returned (.int .i64 S.errF) /\ dC O g S.flush w w' := by
 have HON := Lib.hid (pR h)
 have H := Lib.hid h
 by_cases hon : S.on = true
 ·have HF := Lib.hid (yB h hok hon hlb)
  rw [hon] at HON
  by_cases hf : S.fails = true
  ·have R1 : S.errF = 14 := by unfold DS.errF; rw [if_pos hon, if_pos hf]
   have R2 : S.flush = S.failed := by unfold DS.flush; rw [if_pos hon, if_pos hf]
   rw [R1, R2]
   rw [hf] at HF
   clear R1 R2 h hok hlb hon hf
   go_enter Tryz.func93, Tryz.ntmps93
   go_wp2_with (first
    | (go_at_call 139; refine HON.out.mono ?_; rintro e w1 ⟨rfl, rfl⟩)
    | (go_at_call 141; refine HF.out.mono ?_; rintro e w1 ⟨rfl, hT⟩))
   go_ret
   exact ⟨rfl, hT⟩
  ·have hff : S.fails = false := by simpa using hf
   have R1 : S.errF = 0 := by unfold DS.errF; rw [if_pos hon, if_neg hf]
   have R2 : S.flush = { S.failed with safe := S.now, dirty := [] } := by unfold DS.flush; rw [if_pos hon, if_neg hf]
   rw [R1, R2]
   rw [hff] at HF
   obtain ⟨s1, s2, s3⟩ := Fx hff
   have hok1 := hok.failed
   obtain ⟨S1, hS1⟩ : ∃ S1, S1 = S.failed := ⟨_, rfl⟩
   rw [<- hS1] at HF hok1 s1 s2 s3 ⊢
   have hnow : S.now = eU S1.safe S1.dirty := by rw [<- s1, hok1.now]
   rw [hnow]
   have HOK := Lib.hid hok1
   clear R1 R2 h hok hlb hon hf hff s1 s2 s3 hS1 hnow hok1
   go_enter Tryz.func93, Tryz.ntmps93
   go_upto_region 3 with (first
    | (go_at_call 139; refine HON.out.mono ?_; rintro e w1 ⟨rfl, rfl⟩)
    | (go_at_call 141; refine HF.out.mono ?_; rintro e w1 ⟨rfl, hT⟩))
   obtain ⟨O1, ⟨gn, gs, cn, cs, vd, vk, rfl, h1⟩, hO1, hK1⟩ := hT
   obtain ⟨p, cap, rfl, hcap, hcap2, _, _⟩ := iR h1.dirty
   have HO1 := Lib.hid hO1
   have HK1 := Lib.hid hK1
   have H1 := Lib.hid h1
   have ha := h1.apart
   simp only [List.nodup_cons, List.mem_cons, List.mem_append, not_or] at ha
   have HN : Hid (g ≠ gn /\ g ≠ gs /\ gn ≠ gs) := Lib.hid ⟨ha.1.1, ha.1.2.1, ha.2.1.1⟩
   have c2 := h1.blk.cell 2
   simp at c2
   obtain ⟨n, hn⟩ : ∃ n, n = S1.dirty.length := ⟨_, rfl⟩
   obtain ⟨ns, hns⟩ : ∃ ns, ns = S1.safe.length := ⟨_, rfl⟩
   have hgl := h1.blk.lt
   rw [<- hn] at c2 hcap H1
   have HDN := Lib.hid hn
   have HNS := Lib.hid hns
   have hnI : (n : Int) <= 9223372036854775807 := by omega
   have hs0 := h1.safe
   rw [<- hns] at hs0
   have HS0 := Lib.hid hs0
   clear hs0 ha h1 hn hns hcap hcap2 hO1 hK1 HON HF
   go_wp2_with fail
   go_loopw [17] (fun i wr => ∃ j : Nat, j <= n /\ i = .int .i64 j /\ aR [gs] w1 wr /\ wr.ownsRow 0 9 1 (.slice (some ⟨gs, 0, none⟩) ns cs) ns ((eU S1.safe (S1.dirty.take j)).map Value.string)) (fun i _ => n - (intOf i).toNat)
   case atStart => exact ⟨0, Nat.zero_le _, rfl, aR.refl _ _, by simpa [eU] using HS0.out⟩
   case round =>
    obtain ⟨j, hj, rfl, hk, hrow⟩ := hrel
    have HK := Lib.hid hk
    have HR := Lib.hid hrow
    clear hk hrow
    have HK2 : Hid (aR [gs, gn] w1 wr) := Lib.hid (HK.out.mono (by simp))
    have hgr : g < wr.heap.size := Nat.lt_of_lt_of_le hgl HK.out.size
    have HB : Hid (aG wr g 107 _) := Lib.hid ((HK.out.block g hgl (by simp; exact HN.out.2.1)).trans H1.out.blk)
    by_cases hlt : j < n
    ·have hjd : j < S1.dirty.length := by rw [<- HDN.out]; exact hlt
     obtain ⟨x, hx⟩ : ∃ x, x = S1.dirty[j] := ⟨_, rfl⟩
     have hxj : S1.dirty[j]? = some x := by rw [hx]; exact List.getElem?_eq_getElem hjd
     have hxf : x.1 < ns := by rw [HNS.out]; exact HOK.out.fits x (by rw [hx]; exact List.getElem_mem hjd)
     obtain ⟨gd, rfl, hgd, d0, d1⟩ := H1.out.elem HK2.out hxj
     have HE : Hid (eU S1.safe (S1.dirty.take (j + 1)) = (eU S1.safe (S1.dirty.take j)).set x.1 x.2) := Lib.hid (by rw [pQ hxj, uU])
     obtain ⟨xa, xs⟩ := x
     have hxaI : (xa : Int) < (ns : Int) := by simpa using hxf
     clear hx hxj
     simp only at d0 d1 hxf HE
     go_upto_region 6 with fail
     obtain ⟨W, hW⟩ : ∃ W, W = wr.alloc (.cells #[.int .i64 (xa : Int), .string xs] 74) := ⟨_, rfl⟩
     have kW : aR [] wr W := by rw [hW]; exact (aR.refl _ _).alloc _
     have bW : aG W wr.heap.size 74 #[.int .i64 (xa : Int), .string xs] := by rw [hW]; exact aG.new wr _ _
     have e0 := bW.cell 0
     have e1 := bW.cell 1
     have g1 := (show aG W g 107 _ from (kW.block g hgr (by simp)).trans HB.out).cell 1
     have q0 := dY (bR HR.out kW (by simp)) (i := xa) (u := .string ((eU S1.safe (S1.dirty.take j)).getD xa .empty)) (by
      rw [List.getElem?_map, List.getD_eq_getElem?_getD, List.getElem?_eq_getElem (by rw [iX, <- HNS.out]; exact hxf)]; rfl)
     have q1 := kR (bR HR.out kW (by simp)) xa
     simp at e0 e1 g1
     rw [<- HNS.out] at g1
     obtain ⟨X, hX⟩ : ∃ X, X = (eU S1.safe (S1.dirty.take j)).getD xa .empty := ⟨_, rfl⟩
     rw [<- hX] at q0
     have HKW := Lib.hid kW
     rw [<- hW]
     clear hW kW bW d0 d1 hX
     go_still_tail 9, (by kernel_rfl)
     change wpList _ _ _ _ _ W.drew
     go_wp2_with fail
     go_roundw
     case rel =>
      refine ⟨j + 1, by omega, by go_num, ?_, ?_⟩
      ·exact ((HK.out.trans HKW.out (by simp)).drew).put (.inl (by simp)) _ _
      ·rw [HE.out, List.map_set]
       exact fI (wH (bR HR.out HKW.out (by simp)) (i := xa) (.string xs)) (fun _ _ => rfl)
     case measure => simp [intOf]; omega
    ·obtain rfl : j = n := by omega
     have hTn : S1.dirty.take j = S1.dirty := List.take_of_length_le (by rw [<- HDN.out]; exact Nat.le_refl _)
     rw [hTn, HNS.out] at HR
     have HD := Lib.hid (Tm H1.out HK.out HR.out)
     have c2' := HB.out.cell 2
     have f2' := HB.out.frozen 2
     simp at c2'
     clear hTn hlt hj HB
     go_wp2_with fail
     go_ret
     have hkk : aR (g :: gn :: gs :: ((Value.slice p j cap).ownBlock.toList ++ vk.ownBlock.toList)) w1 (wr.setCell ⟨g, 2, none⟩ (.slice none 0 0)) := (HK.out.mono (by simp)).put (.inl (by simp)) _ _
     refine ⟨rfl, nL (by rw [HDN.out]; exact HO1.out) HK1.out ⟨_, ⟨gn, gs, cn, cs, _, vk, rfl, HD.out⟩, fun b hb => ?_, hkk⟩⟩
     simp only [List.mem_cons, List.mem_append] at hb ⊢
     rcases hb with hb | hb | hb | hb | hb
     ·exact .inl (.inl hb)
     ·exact .inl (.inr (.inl hb))
     ·exact .inl (.inr (.inr (.inl hb)))
     ·simp [Value.ownBlock] at hb
     ·exact .inl (.inr (.inr (.inr (.inr hb))))
 ·have R1 : S.errF = 14 := by unfold DS.errF; rw [if_neg hon]
  have R2 : S.flush = S := by unfold DS.flush; rw [if_neg hon]
  rw [R1, R2]
  rw [show S.on = false by simpa using hon] at HON
  clear R1 R2 h hok hlb hon
  go_enter Tryz.func93, Tryz.ntmps93
  go_wp2_with (go_at_call 139; refine HON.out.mono ?_; rintro e w1 ⟨rfl, rfl⟩)
  go_ret
  exact ⟨rfl, dC.refl H.out⟩
def bs (l : List UInt8) : ByteArray := ⟨l.toArray⟩
theorem gA (l : List UInt8) : (bs l).data.toList = l := by simp [bs]
theorem dO (l : List UInt8) : (bs l).size = l.length := by rw [Lib.size_eq, gA]
theorem Xe (s : ByteArray) : bs s.data.toList = s := by
 apply ByteArray.ext
 simp [bs]
theorem yG (l : List UInt8) (i j : Nat) : (bs l).extract i j = bs ((l.drop i).take (j - i)) := by
 have h := Lib.extract_eq (bs l) i j
 rw [gA] at h
 exact h
theorem Lw (l r : List UInt8) (n : Nat) (hn : l.length = n) : (Rd.mk (bs (l ++ r)) 0).take n = (bs l, true, ⟨bs r, 0⟩) := by
 unfold Rd.take
 simp only [dO, List.length_append]
 rw [if_neg (by simp), if_neg (by omega), if_neg (by omega)]
 subst hn
 have e1 : (bs (l ++ r)).extract 0 l.length = bs l := by rw [yG]; simp
 have e2 : (bs (l ++ r)).extract l.length (l.length + r.length) = bs r := by rw [yG]; simp
 rw [Int.toNat_natCast, e1, e2]
theorem qU (k n : Nat) (r : List UInt8) (h : n < 256 ^ k) (h1 : n <= 9223372036854775807) : (Rd.mk (bs (aD k n ++ r)) 0).num k = ((n : Int), (⟨bs r, 0⟩ : Rd)) := by
 unfold Rd.num
 rw [Lw _ _ _ (aL k n)]
 simp only [gA, rJ, Nat.mod_eq_of_lt h]
 rw [if_pos trivial, if_neg (by omega)]
theorem Zo (l r : List UInt8) (n : Nat) (hn : l.length = n) : (Rd.mk (bs (l ++ r)) 0).raw n = (bs l, ⟨bs r, 0⟩) := by
 unfold Rd.raw
 rw [Lw _ _ _ hn]
theorem Xf (s : ByteArray) (r : List UInt8) (h : s.size <= 65535) : (Rd.mk (bs (cC s ++ r)) 0).text = (s, ⟨bs r, 0⟩) := by
 unfold Rd.text cC
 rw [List.append_assoc, qU 2 s.size _ (by omega) (by omega)]
 rw [Zo _ _ _ (Lib.size_eq s).symm, Xe]
theorem Xg (n : Nat) : (Rd.mk (bs (List.replicate n 0)) 0).rest = true := by
 unfold Rd.rest
 simp [bs]
theorem Zp (n : Nat) : (Rd.mk (bs (List.replicate n 0)) 0).fin = (0, ⟨bs (List.replicate n 0), 0⟩) := by
 unfold Rd.fin
 rw [if_pos (Xg n)]
theorem lT (l : List UInt8) (k : Nat) (xs : List Int) (h : cO k xs = true) : (Wr.mk l 0).nums k xs = ⟨l ++ aO k xs, 0⟩ := by
 unfold Wr.nums
 rw [if_pos h]
 rfl
theorem Tp (l : List UInt8) (xs : List ByteArray) (h : eB xs = true) : (Wr.mk l 0).texts xs = ⟨l ++ bD xs, 0⟩ := by
 unfold Wr.texts
 rw [if_pos h]
 rfl
theorem wJ (k : Nat) (n : Nat) : aO k [(n : Int)] = aD k n := by simp [aO]
theorem Xh (k : Nat) (n m : Nat) : aO k [(n : Int), (m : Int)] = aD k n ++ aD k m := by simp [aO]
theorem pS {k n : Nat} (h : n < 256 ^ k) : cO k [(n : Int)] = true := by
 simp only [cO, List.all_cons, List.all_nil, Bool.and_true]
 rw [fR]
 have : ((256 ^ k : Nat) : Int) = 256 ^ k := by simp
 omega
theorem Xi {k n m : Nat} (h : n < 256 ^ k) (h' : m < 256 ^ k) : cO k [(n : Int), (m : Int)] = true := by
 have h1 := pS h
 have h2 := pS h'
 simp only [cO, List.all_cons, List.all_nil, Bool.and_true] at h1 h2 ⊢
 rw [h1, h2]
 rfl
theorem qG (s : ByteArray) : (cC s).length = 2 + s.size := by rw [cC, List.length_append, aL, Lib.size_eq]
def oU (x : Nat) : Nat := if x % 2 = 1 then (x / 2) ^^^ 3988292384 else x / 2
def nN : Nat -> Nat -> Nat
 | 0, x => x
 | k + 1, x => oU (nN k x)
def sJ (x : Nat) (b : UInt8) : Nat := nN 8 (x ^^^ b.toNat)
def fF (x : Nat) (l : List UInt8) : Nat := l.foldl sJ x
def tB (l : List UInt8) : Nat := fF 4294967295 l ^^^ 4294967295
theorem Dc {a b : Nat} (ha : a < 4294967296) (hb : b < 4294967296) : a ^^^ b < 4294967296 := Nat.xor_lt_two_pow (n := 32) ha hb
theorem Oh {x : Nat} (h : x < 4294967296) : oU x < 4294967296 := by
 unfold oU
 split
 ·exact Dc (by omega) (by omega)
 ·omega
theorem Br (k : Nat) {x : Nat} (h : x < 4294967296) : nN k x < 4294967296 := by
 induction k with
 | zero => exact h
 | succ k ih => exact Oh ih
theorem uY {x : Nat} (b : UInt8) (h : x < 4294967296) : x ^^^ b.toNat < 4294967296 := Dc h (by have := b.toNat_lt; omega)
theorem Jj {x : Nat} (b : UInt8) (h : x < 4294967296) : sJ x b < 4294967296 := Br 8 (uY b h)
theorem qV (l : List UInt8) : ∀ {x : Nat}, x < 4294967296 -> fF x l < 4294967296 := by
 induction l with
 | nil => intro x h; exact h
 | cons b l ih => intro x h; exact ih (Jj b h)
theorem Jk (l : List UInt8) : tB l < 4294967296 := Dc (qV l (by omega)) (by omega)
theorem oV (x : Nat) (l m : List UInt8) : fF x (l ++ m) = fF (fF x l) m := List.foldl_append
theorem Dd (x : Nat) (l : List UInt8) (b : UInt8) : fF x (l ++ [b]) = sJ (fF x l) b := by rw [oV]; rfl
theorem Tq {n : Nat} (h : n < 4294967296) : oC (aD 4 n) = n := by
 rw [rJ]
 exact Nat.mod_eq_of_lt h
def gU (n : Int) (l : List UInt8) : List UInt8 := l ++ List.replicate ((n - 4).toNat - l.length) 0
def oW (n : Int) (l : List UInt8) : List UInt8 × Int :=
 if n < 4 \/ 65536 < n then ([], 1)
 else if n - 4 < (l.length : Int) then ([], 2)
 else (gU n l ++ aD 4 (tB (gU n l)), 0)
def fJ (l : List UInt8) : List UInt8 × Int :=
 if l.length < 4 then ([], 5)
 else if oC (l.drop (l.length - 4)) = tB (l.take (l.length - 4)) then (l.take (l.length - 4), 0)
 else ([], 7)
theorem Oi {n : Int} {l : List UInt8} (h : n < 4 \/ 65536 < n) : oW n l = ([], 1) := by unfold oW; rw [if_pos h]
theorem Jl {n : Int} {l : List UInt8} (h0 : 4 <= n) (h1 : n <= 65536) (h : n - 4 < (l.length : Int)) : oW n l = ([], 2) := by
 unfold oW; rw [if_neg (by omega), if_pos h]
theorem sK {n : Int} {l : List UInt8} (h0 : 4 <= n) (h1 : n <= 65536) (h : (l.length : Int) <= n - 4) : oW n l = (gU n l ++ aD 4 (tB (gU n l)), 0) := by
 unfold oW; rw [if_neg (by omega), if_neg (by omega)]
theorem lU {n : Int} {l : List UInt8} (h : (l.length : Int) <= n - 4) : ((gU n l).length : Int) = n - 4 := by
 unfold gU
 rw [List.length_append, List.length_replicate]
 omega
theorem yH (b : List UInt8) : fJ (b ++ aD 4 (tB b)) = (b, 0) := by
 have hl : (b ++ aD 4 (tB b)).length - 4 = b.length := by rw [List.length_append, aL]; omega
 unfold fJ
 rw [if_neg (by rw [List.length_append, aL]; omega), hl, List.drop_left, List.take_left, Tq (Jk b), if_pos rfl]
end Go.Proofs.YtingkbeifohihaaGreatDoor
