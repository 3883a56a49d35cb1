/-
  The document's own prints (package masonryref1): of texts, valid, laid.
-/
import Derived.Test.YtingkbeifohihaaGreatDoorBrickGet
import Derived.Test.YtingkbeifohihaaGreatDoorBytes
import Derived.Test.YtingkbeifohihaaGreatDoorMarkPure
import Derived.Deep.AppendLies
import Derived.Lib.Bytes
import Derived.Test.YtingkbeifohihaaGreatDoorTwoSmall
import Derived.Test.YtingkbeifohihaaGreatDoorBookTexts
import Derived.Test.YtingkbeifohihaaGreatDoorRegionApp
import Derived.Deep.DeepCutAuto
import Derived.Deep.RegionWith
import Derived.StillTailTactics
import Derived.Test.YtingkbeifohihaaGreatDoorMarkRef
import Derived.Test.YtingkbeifohihaaGreatDoorGrow
import Derived.Test.YtingkbeifohihaaGreatDoorTwoWords
namespace Go.Proofs.YtingkbeifohihaaGreatDoor
open Go.RowKit
def BR (g refs : Int) (b : ByteArray) (p : Int) : CH := ⟨g, 1, refs, tY g b, [p]⟩
structure BK (w0 w : World) (g gd m N : Nat) (h : List ByteArray) (K : KD) (Ms : List MK) (cs : List CH) : Prop where
 st : eK w0 w g gd m N K Ms
 run : bU N K h 2
 on : qR K cs
section
variable {w0 w w' : World} {g gd m N : Nat} {h : List ByteArray} {K : KD} {Ms : List MK} {cs l1 l2 : List CH} {gen refs by_ p : Int} {b : ByteArray}
theorem BK.below (s : BK w0 w g gd m N h K Ms cs) (hb : Below w.heap.size w w') : BK w0 w' g gd m N h K Ms cs := ⟨s.st.below hb, s.run, s.on⟩
theorem BK.mono {m' : Nat} (s : BK w0 w g gd m N h K Ms cs) (hm : m <= m') : BK w0 w g gd m' N h K Ms cs := ⟨s.st.mono hm, s.run, s.on⟩
theorem BK.base (s : BK w0 w g gd m N h K Ms cs) : Below w0.heap.size w0 w := s.st.st.at0
theorem BK.fresh (s : eK w0 w g gd m N K Ms) (f : iY N K h) : BK w0 w g gd m N h K Ms [] := ⟨s, f.run, qR.fresh f⟩
theorem BK.ofAt (s : BK w0 w g gd m N h K Ms cs) (hc : BR gen refs b p ∈ cs) : aZ K.F gen 1 refs (tY gen b) [p] /\ nK p := by
 have hon : aZ K.F gen 1 refs (tY gen b) [p] := s.on.on _ hc
 have := hon.range p (by simp)
 exact ⟨hon, by unfold nK; omega⟩
theorem BK.get (s : BK w0 w g gd m N h K Ms cs) (hc : BR gen refs b p ∈ cs) (hb : iI b.size = true) :
  Calls Tryz.prog 14 #[.pointer (some ⟨g, 0, none⟩), .int .i64 p] w fun e w' => e = .returned (.tuple #[Ci gen refs (cX gen) (zO gen b) b, .int .i64 0]) /\ Below w.heap.size w w' := by
 obtain ⟨hon, hp⟩ := s.ofAt hc
 have := rF s.st.st s.run hp
 obtain ⟨e1, e2⟩ := rI hon hb
 rwa [show aI K p = aI K ([p].getD 0 0) from rfl, e1, e2] at this
theorem BK.use_no (s : BK w0 w g gd m N h K Ms (l1 ++ BR gen refs b p :: l2)) (hm : m < 1000000) (hI : nK by_) (hb : iI b.size = true) (hno : by_ < -refs \/ 60000 - refs < by_) :
  Calls Tryz.prog 19 #[.pointer (some ⟨g, 0, none⟩), .int .i64 p, .int .i64 by_] w fun e w' => e = .returned (.tuple #[.int .i64 0, .int .i64 15]) /\ BK w0 w' g gd (m + 1) N h K Ms (l1 ++ BR gen refs b p :: l2) := by
 have hc : BR gen refs b p ∈ l1 ++ BR gen refs b p :: l2 := by simp
 obtain ⟨hon, hp⟩ := s.ofAt hc
 have := wM s.st s.run hm hp hI
 obtain ⟨e1, e2⟩ := (Lq hon (s.on.used hc)).1 hno
 have hz : vZ (aI K p) = 0 := (rI hon hb).1
 have hu : Qz K p by_ = ((0, 15), K) := by
  unfold Qz
  rw [if_neg (by rw [hz]; simp)]
  exact Prod.ext e1 e2
 rw [hu] at this
 refine this.mono ?_
 rintro e w' ⟨rfl, hd⟩
 exact ⟨rfl, hd, s.run, s.on⟩
theorem BK.use_yes (s : BK w0 w g gd m N h K Ms (l1 ++ BR gen refs b p :: l2)) (hm : m < 1000000) (hI : nK by_) (hb : iI b.size = true) (hno : ¬ (by_ < -refs \/ 60000 - refs < by_)) :
  Calls Tryz.prog 19 #[.pointer (some ⟨g, 0, none⟩), .int .i64 p, .int .i64 by_] w fun e w' => e = .returned (.tuple #[.int .i64 (refs + by_), .int .i64 0]) /\ ∃ K', BK w0 w' g gd (m + 1) N h K' Ms (l1 ++ BR gen (refs + by_) b p :: l2) := by
 have hc : BR gen refs b p ∈ l1 ++ BR gen refs b p :: l2 := by simp
 obtain ⟨hon, hp⟩ := s.ofAt hc
 have := wM s.st s.run hm hp hI
 obtain ⟨e1, e2⟩ := (Lq hon (s.on.used hc)).2 hno
 have hz : vZ (aI K p) = 0 := (rI hon hb).1
 have hst := s.on.refs (r := refs + by_) (by omega)
 have hl0 : 0 < [p].length := by simp
 have hok : (cQ gen 1 (refs + by_) (tY gen b) [p] 0).Ok := by
  have := hon.ok hl0
  exact ⟨this.fit, this.num, (by show 0 <= refs + by_ /\ refs + by_ <= 60000; omega), this.next, this.data⟩
 have hr := s.run.set p (bs (cQ gen 1 (refs + by_) (tY gen b) [p] 0).text)
 obtain ⟨-, t2⟩ := Vl hon (s.on.used hc) hl0 (s := bs (cQ gen 1 (refs + by_) (tY gen b) [p] 0).text) (by rw [dO, hok.text_len])
 have t2 : nZ K p (bs (cQ gen 1 (refs + by_) (tY gen b) [p] 0).text) = Da K p (bs (cQ gen 1 (refs + by_) (tY gen b) [p] 0).text) := t2
 rw [t2] at hr
 have hu : Qz K p by_ = ((refs + by_, 0), Da K p (bs (cQ gen 1 (refs + by_) (tY gen b) [p] 0).text)) := by
  unfold Qz
  rw [if_neg (by rw [hz]; simp)]
  exact Prod.ext e1 e2
 rw [hu] at this
 refine this.mono ?_
 rintro e w' ⟨rfl, hd⟩
 exact ⟨rfl, _, hd, hr, hst⟩
theorem BK.drop (s : BK w0 w g gd m N h K Ms (l1 ++ BR gen refs b p :: l2)) (hb : iI b.size = true) :
  Calls Tryz.prog 20 #[.pointer (some ⟨g, 0, none⟩), .int .i64 p] w fun e w' => e = .returned (.int .i64 0) /\ ∃ K', BK w0 w' g gd m N h K' Ms (l1 ++ l2) := by
 have hm : BR gen refs b p ∈ l1 ++ BR gen refs b p :: l2 := by simp
 obtain ⟨hon, hp⟩ := s.ofAt hm
 have := Ae s.st s.run hp
 obtain ⟨e1, H', e2, ho, hl, hH⟩ := Wu hon (Bg s.on.once) s.run.hok (s.on.used hm)
 have hz : vZ (aI K p) = 0 := (rI hon hb).1
 have hu : Yk K p = (0, Fl K H') := by
  unfold Yk
  rw [if_neg (by rw [hz]; simp)]
  exact Prod.ext e1 e2
 rw [hu] at this
 refine this.mono ?_
 rintro e w' ⟨rfl, hd⟩
 have h2 : ∀ z, z = 0 \/ z = 1 -> z ∈ H' := fun z hz => (hH z).2 ⟨by rcases hz with rfl | rfl <;> first | exact s.run.ok.zero | exact s.run.ok.one, fun hp => by have := (hon.range z hp).1; omega⟩
 exact ⟨rfl, _, hd, s.run.use ho (h2 0 (.inl rfl)) (h2 1 (.inr rfl)), s.on.drop hl hH⟩
theorem BK.put (s : BK w0 w g gd m N h K Ms cs) (hm : m <= 900000) (A : Option Addr) (n c : Nat) (xs : List ByteArray) (hn : xs.length = n) (hx : dL w w.heap.size A xs) (hc : n <= c) (hl : n <= 1000) (hok : Vs gen xs = true) (hroom : (dA cs).length + 3 <= N - 111) :
  Calls Tryz.prog 11 #[.pointer (some ⟨g, 0, none⟩), .int .i64 gen, .slice A n c] w fun e w' => ∃ K' p, e = .returned (.tuple #[.int .i64 p, .int .i64 0]) /\ BK w0 w' g gd (m + 40) N h K' Ms (cs ++ [BR gen 1 (eE xs) p]) := by
 have hk := hok
 unfold Vs at hk
 rw [Bool.and_eq_true] at hk
 obtain ⟨hg, hf⟩ := hk
 have hg := of_decide_eq_true hg
 have hf := of_decide_eq_true hf
 have hsz : (tY gen (eE xs)).size = 33 + (aW xs).length := by rw [rH hg, jC]
 have hnd : dP (tY gen (eE xs)).size = 1 := by rw [hsz]; unfold dP; rw [if_neg (by omega)]; omega
 have hcn := s.on.cnt
 have hft : lR gen 1 = true := decide_eq_true (by omega)
 refine (Ds s.st s.run hm gen A n c xs hn hx hc hl (by omega) (fun x hx => by
  obtain ⟨j, hj⟩ := List.mem_iff_getElem?.1 hx
  have := kH hj
  omega)).mono ?_
 rintro e w' (⟨a1, -, -⟩ | ⟨-, q⟩)
 ·rw [hok] at a1; cases a1
 cases q with
 | arg a1 a2 a3 => rw [hft] at a1; cases a1
 | long a1 a2 a3 a4 => omega
 | full a1 a2 a3 a4 a5 =>
   have := (xQ _ K 0 s.run.hok).1 a3
   omega
 | done a1 a2 K' t a3 a4 a5 a6 =>
   obtain ⟨ps, q1, rfl, q3⟩ := Bh s.run.ok.dim.2 s.run.hok s.run.ok.zero s.run.ok.one a1 a2 a3
   have hl := q1.len
   rw [hnd] at hl
   obtain ⟨p, rfl⟩ : ∃ p, ps = [p] := List.length_eq_one_iff.1 hl
   exact ⟨K', p, a4, a5, a6, s.on.put q1 q3⟩
end
set_option maxRecDepth 100000
set_option maxHeartbeats 2000000
theorem Vn (l : List UInt8) (m : Nat) : Lib.byteCells l ++ [Value.int .u8 ((m : Int) % 256)] = Lib.byteCells (l ++ aD 1 m) := by
 simp [Lib.byteCells, aD, Nat.toUInt8]
theorem Ad (j m : Nat) : aD j m ++ aD 1 (m / 256 ^ j) = aD (j + 1) m := by
 rw [qA j m]
 rfl
theorem Ye (j m : Nat) : m / 256 ^ (j + 1) = m / 256 ^ j / 256 := by rw [Nat.pow_succ, Nat.div_div_eq_div_mul]
theorem Dr (m k : Nat) (w : World) (hm : m < 18446744073709551616) (hk0 : 0 < k) (hk : k <= 8) :
  Calls Tryz.prog 38 #[.int .u64 m, .int .i64 k] w fun e w' => e = .returned (.string ⟨(aD k m).toArray⟩) /\ Below w.heap.size w w' := by
 obtain ⟨i0, hi, hz0, hz1, hz2⟩ := info_parts iL
 go_enter Tryz.func38, Tryz.ntmps38
 go_wp2_with fail
 go_loopw [0, 5, 6] (fun x v i wr => ∃ j : Nat, j <= k /\ i = .int .i64 j /\ x = .int .u64 ((m / 256 ^ j : Nat) : Int) /\ wr.ownsRow w.heap.size 5 1 v j (Lib.byteCells (aD j m)) /\ Below w.heap.size w wr) (fun _ _ i _ => k - (intOf i).toNat)
 case atStart => exact ⟨0, Nat.zero_le _, rfl, by simp, World.ownsRow_nil _ _ _ _, Below.refl _ _⟩
 case round =>
  obtain ⟨j, hj, rfl, rfl, hown, hbr⟩ := hrel
  by_cases hlt : j < k
  ·have HJ := Lib.hid (Ye j m)
   have HL := Lib.hid (Ad j m)
   have HLL := Lib.hid (show (Lib.byteCells (aD j m)).length = j by rw [Lib.byteCells_length, aL])
   obtain ⟨M, hM⟩ : ∃ M, M = m / 256 ^ j := ⟨_, rfl⟩
   have hMl : M < 18446744073709551616 := by rw [hM]; exact Nat.lt_of_le_of_lt (Nat.div_le_self _ _) hm
   rw [<- hM]
   have HM := Lib.hid hM
   clear hM hm
   have HOWN := Lib.hid hown
   clear hown
   go_wp2_with (at_builtin; refine wpList_append_lies _ rfl (.tmp 12) (.tmp 15) 79 rfl w.heap.size 5 i0 (.int .u8 0) 1 1 Tryz.underlying79 hi hz0 hz1 hz2 rfl (by omega) _ j _ rfl (HOWN.out.alloc _) ⟨wr.heap.size, 0, none⟩ 1 1 [.int .u8 ((M : Int) % 256)] rfl rfl ?c1 ?c2 (by omega) (by unfold maxLen; omega) (by omega) (by have := hbr.size; simp; omega) _ rfl ?_)
   case c1 =>
    intro a u ha
    match a, ha with
    | 0, ha => simp at ha; subst ha; simp [Addr.add]
   case c2 => intro u hu; simp at hu; subst hu; rfl
   intro g cap w1 hown1 hg1 hor hlt1
   have hb1 : Below w.heap.size w w1 := (hbr.alloc hbr.size _).grown hg1 (by have := hbr.size; simp; omega) (fun k hk => (HOWN.out.lt k hk).1)
   have HB1 := Lib.hid hb1
   rw [Vn] at hown1
   have HOW := Lib.hid hown1
   clear hown1 hg1 hor hb1 hbr
   go_wp2
   go_roundw
   case rel => exact ⟨j + 1, by omega, by go_num, by rw [HJ.out, <- HM.out]; simp, by have h := HOW.out; rw [HM.out, HL.out] at h; exact h, HB1.out⟩
   case measure => simp [intOf]; omega
  ·obtain rfl : j = k := by omega
   obtain ⟨g, cap, rfl, hg0, hlt1⟩ := hown.form hk0
   have hcv := run_convert_bytes_back (P := Tryz.prog) wr 79 9 5 ⟨g, 0, none⟩ cap (aD j m) Tryz.underlying79 Tryz.underlying5 Tryz.underlying9
    (fun i hi => hown.cells (g := g) rfl i _ (by simp [Lib.byteCells, List.getElem?_eq_getElem hi]))
   rw [aL] at hcv
   clear hown
   go_wp2
   go_ret
   exact ⟨rfl, hbr⟩
set_option maxRecDepth 100000
set_option maxHeartbeats 40000000
theorem Ld (M : ByteArray) (q j : Nat) (hj : j < 16) :
  mK (fun t => (M.extract (64 * q + 4 * j) (64 * q + 4 * j + 4)).data.toList.getD t 0) 0 = kI (bN M.data.toList q) (bM (bN M.data.toList q) j) j := by
 unfold kI
 rw [if_pos hj, uE]
def jJ (b : Value) (g j y0 y1 y2 y3 : Nat) : Nat -> Value
 | 0 | 1 | 6 | 12 | 18 => b
 | 2 | 7 | 13 | 19 => .int .i64 (j : Int)
 | 3 => .int .i64 ((j - 3 : Nat) : Int)
 | 8 => .int .i64 ((j - 8 : Nat) : Int)
 | 14 => .int .i64 ((j - 14 : Nat) : Int)
 | 20 => .int .i64 ((j - 16 : Nat) : Int)
 | 4 => .pointer (some ⟨g, j - 3, none⟩)
 | 9 => .pointer (some ⟨g, j - 8, none⟩)
 | 15 => .pointer (some ⟨g, j - 14, none⟩)
 | 21 => .pointer (some ⟨g, j - 16, none⟩)
 | 5 => .int .u32 (y0 : Int)
 | 10 => .int .u32 (y1 : Int)
 | 16 => .int .u32 (y2 : Int)
 | 22 => .int .u32 (y3 : Int)
 | 11 => .int .u32 ((y0 ^^^ y1 : Nat) : Int)
 | 17 => .int .u32 ((y0 ^^^ y1 ^^^ y2 : Nat) : Int)
 | 23 => .int .u32 ((y0 ^^^ y1 ^^^ y2 ^^^ y3 : Nat) : Int)
 | _ => .int .u32 ((bY (y0 ^^^ y1 ^^^ y2 ^^^ y3) 1 : Nat) : Int)
theorem Yf (s : ByteArray) (w : World) (hs : s.size <= 1000000) :
  Calls Tryz.prog 36 #[.string s] w fun e w' => e = .returned (.string ⟨(Cn s.data.toList).toArray⟩) /\ Below w.heap.size w w' := by
 obtain ⟨i0, hi, hz0, hz1, hz2⟩ := info_parts Ei
 obtain ⟨PB, hPB⟩ : ∃ PB : ByteArray, PB = ⟨(gC s.size).toArray⟩ := ⟨_, rfl⟩
 have hPs : PB.size = (gC s.size).length := by rw [hPB]; show (gC s.size).toArray.size = _; simp
 have hpw := qN s.size
 have hpl : (gC s.size).length <= 72 := by have := jZ s.size; rw [jA]; omega
 rw [<- hPs] at hpw hpl
 have HP : Hid (∀ w, Calls Tryz.prog 71 #[.int .i64 (s.size : Int)] w fun e w' => e = .returned (.string PB) /\ Below w.heap.size w w') := Lib.hid (fun w => by rw [hPB]; exact xL s.size w (by omega))
 obtain ⟨M, hM⟩ : ∃ M, M = s ++ PB := ⟨_, rfl⟩
 have hMs : M.size = s.size + PB.size := by rw [hM, ByteArray.size_append]
 have HMD : Hid (M.data.toList = s.data.toList ++ gC s.size) := Lib.hid (by rw [hM, hPB, ByteArray.data_append, Array.toList_append])
 obtain ⟨Q, hQ⟩ : ∃ Q, Q = M.size / 64 := ⟨_, rfl⟩
 have hMQ : M.size = 64 * Q := by omega
 have hcat : s ++ PB = M := hM.symm
 have hl1 : s.size + PB.size <= 9223372036854775807 := by omega
 have hQ1 : Q <= 100000 := by omega
 have HQ := Lib.hid hQ
 have HMQ := Lib.hid hMQ
 clear hPB hPs hpw hM hQ hMs hMQ
 go_enter Tryz.func36, Tryz.ntmps36
 go_wp2_with (go_at_call 71; refine (HP.out _).mono ?_; rintro e w1 ⟨rfl, hb1⟩)
 have hB0 : aG w1 w.heap.size 132 (aJ St.init) := (aG.new w _ _).below hb1 (by simp)
 have hbw : Below w.heap.size w w1 := ((Below.refl _ _).alloc (Nat.le_refl _) _).trans (hb1.mono (by simp))
 have HK0 := Lib.hid (show fU w w1 w.heap.size (aJ (gN M.data.toList 0)) from ⟨hB0, Nat.le_refl _, hbw⟩)
 clear hb1 hB0 hbw
 go_wp2_with fail
 clear hcat hl1
 go_loopw [3, 4] (fun v a wr => ∃ q g : Nat, q <= Q /\ (∃ A : Nat, A = 64 * q /\ a = .int .i64 (A : Int)) /\ v = .slice (some ⟨g, 0, none⟩) 5 5 /\ fU w wr g (aJ (gN M.data.toList q))) (fun _ a _ => 64 * Q - (intOf a).toNat)
 case atStart => exact ⟨0, w.heap.size, by omega, ⟨0, rfl, rfl⟩, rfl, HK0.out⟩
 case round =>
  clear HK0
  obtain ⟨q, g, hq, ⟨A, hA, rfl⟩, rfl, hk⟩ := hrel
  have HK := Lib.hid hk
  have HA := Lib.hid hA
  have hA1 : A <= 6400000 := by omega
  clear hk
  by_cases hlt : q < Q
  ·have hAM : A + 64 <= M.size := by have := HMQ.out; omega
   have hAMI : (A : Int) < (M.size : Int) := by omega
   clear hA
   go_wp2_with fail
   obtain ⟨H, hH⟩ : ∃ H, H = aJ (gN M.data.toList q) := ⟨_, rfl⟩
   rw [<- hH] at HK
   have HH := Lib.hid hH
   clear hH
   go_loopw [5, 6] (fun v i w2 => ∃ j : Nat, j <= 80 /\ i = .int .i64 (j : Int) /\ w2.ownsRow w.heap.size 132 1 v j (aF (bM (bN M.data.toList q) j)) /\ some g ≠ v.ownBlock /\ fU w w2 g H) (fun _ i _ => 80 - (intOf i).toNat)
   case atStart => exact ⟨0, by omega, rfl, World.ownsRow_nil _ _ _ _, by simp [Value.ownBlock], HK.out⟩
   case round =>
    obtain ⟨j, hj, rfl, hown, hne, hk2⟩ := hrel
    have HOWN := Lib.hid hown
    have HNE := Lib.hid hne
    have HK2 := Lib.hid hk2
    clear hown hne hk2
    by_cases hj80 : j < 80
    ·by_cases hj16 : j < 16
     ·have HL : Hid ((aF (bM (bN M.data.toList q) j)).length = j) := Lib.hid (by unfold aF; simp [bZ])
      obtain ⟨c, hc⟩ : ∃ c : Nat, c = A + 4 * j := ⟨_, rfl⟩
      have hcI : (A : Int) + 4 * (j : Int) = (c : Int) := by omega
      have hc1 : c + 4 <= M.size := by omega
      obtain ⟨X, hX⟩ : ∃ X, X = M.extract c (c + 4) := ⟨_, rfl⟩
      have hex : M.extract c (c + 4) = X := hX.symm
      have hXs : X.size = 4 := by rw [hX, ByteArray.size_extract]; omega
      obtain ⟨y, hy⟩ : ∃ y, y = kI (bN M.data.toList q) (bM (bN M.data.toList q) j) j := ⟨_, rfl⟩
      have HW : Hid (∀ w3, Calls Tryz.prog 72 #[.string X] w3 fun e w' => e = .returned (.int .u32 (y : Int)) /\ ∃ d, w' = w3.drewN d) := Lib.hid (fun w3 => by
       have := Ea X w3 hXs
       rw [hX, hc, HA.out, Ld M q j hj16] at this
       rw [hy, hX, hc, HA.out]
       exact this)
      have HE : Hid (aF (bM (bN M.data.toList q) (j + 1)) = aF (bM (bN M.data.toList q) j) ++ [.int .u32 (y : Int)]) := Lib.hid (by rw [iZ, <- hy]; unfold aF; simp)
      obtain ⟨WL, hWL⟩ : ∃ WL, WL = aF (bM (bN M.data.toList q) j) := ⟨_, rfl⟩
      rw [<- hWL] at HE HOWN HL
      have hsl := xJ wr M X c hc1 hex
      clear hc hX hXs hy hWL
      go_wp2_with (first | (go_at_call 72; refine (HW.out _).mono ?_; rintro e w3 ⟨rfl, d, rfl⟩) | (at_builtin; refine wpList_append_lies _ rfl (.tmp 36) (.tmp 49) 133 rfl w.heap.size 132 i0 (.int .u32 0) 1 4 Tryz.underlying133 hi hz0 hz1 hz2 rfl (by omega) _ j _ rfl ((show (wr.drewN d).ownsRow _ _ _ _ _ _ from HOWN.out).alloc _) ⟨wr.heap.size, 0, none⟩ 1 1 [.int .u32 (y : Int)] rfl rfl ?c1 ?c2 (by omega) (by unfold maxLen; omega) (by omega) (by have := HK2.out.2.2.size; simp; omega) _ rfl ?_))
      case c1 =>
       intro a u ha
       match a, ha with
       | 0, ha => simp at ha; subst ha; simp [Addr.add]; exact (aG.new (wr.drewN d) 132 #[.int .u32 (y : Int)]).cell 0
      case c2 => intro u hu; simp at hu; subst hu; rfl
      intro g2 cap w4 hown1 hg1 hor hlt1
      have HK4 := Lib.hid (fU.row (fU.new HK2.out ((cY (aC _ _) d : wr.grownBy (wr.drewN d) none))|>.new (bH (aC _ _) _)) hg1 (fun k hk => (HOWN.out.lt k hk).1) HNE.out)
      have hne4 : some g ≠ (Value.slice (some ⟨g2, 0, none⟩) (j + 1) cap).ownBlock := by
       intro e
       have e : g = g2 := by simpa [Value.ownBlock] using e
       rcases hor with h | h
       ·exact HNE.out (by rw [h, e])
       ·have := HK2.out.1.lt
        have h : g2 = wr.heap.size + 1 := h
        omega
      have HNE4 := Lib.hid hne4
      rw [<- HE.out] at hown1
      have HOW4 := Lib.hid hown1
      clear hown1 hg1 hor hlt1 hne4 hsl
      go_wp2_with fail
      go_roundw
      case rel => exact ⟨j + 1, by omega, by go_num, HOW4.out, HNE4.out, HK4.out⟩
      case measure => simp [intOf] <;> omega
     ·obtain ⟨l, hl⟩ : ∃ l, l = bM (bN M.data.toList q) j := ⟨_, rfl⟩
      have hll : l.length = j := by rw [hl]; exact bZ _ _
      have HN := Lib.hid (xI (p := bN M.data.toList q) (l := l) hj16 rfl rfl rfl rfl)
      have HE : Hid (aF (bM (bN M.data.toList q) (j + 1)) = aF l ++ [.int .u32 ((kI (bN M.data.toList q) l j : Nat) : Int)]) := Lib.hid (by rw [iZ, <- hl]; unfold aF; simp)
      have hlt4 := fun i => pL (tI (bN M.data.toList q) j) (by decide) i
      rw [<- hl] at HOWN hlt4
      rw [HN.out] at HE
      obtain ⟨g', cap, hu5, hg0, hg1⟩ := HOWN.out.form (by omega)
      have hu5 : u5 = .slice (some ⟨g', 0, none⟩) j cap := hu5
      subst hu5
      have hcell : ∀ i, i < j -> wr.cell? ⟨g', i, none⟩ = some (.int .u32 ((l.getD i 0 : Nat) : Int)) := fun i hi' => by
       have := HOWN.out.cells (g := g') rfl i (.int .u32 ((l.getD i 0 : Nat) : Int)) (by have h := iM (l := l) (i := i) (by omega); simpa using h)
       rw [fY, Nat.zero_add] at this
       exact this
      have hgr : ∀ i v, wr.cell? ⟨g', i, none⟩ = some v -> ∀ w3 : World, wr.drew.grownBy w3 none -> w3.cell? ⟨g', i, none⟩ = some v := fun i v h w3 hw3 => (Below.cell (fH hw3) (p := ⟨g', i, none⟩) hg1).trans h
      have HCy0 := Lib.hid (hgr _ _ (hcell (j - 3) (by omega)))
      have HCy1 := Lib.hid (hgr _ _ (hcell (j - 8) (by omega)))
      have HCy2 := Lib.hid (hgr _ _ (hcell (j - 14) (by omega)))
      have HCy3 := Lib.hid (hgr _ _ (hcell (j - 16) (by omega)))
      have HY := Lib.hid (And.intro (hlt4 (j - 3)) (And.intro (hlt4 (j - 8)) (And.intro (hlt4 (j - 14)) (hlt4 (j - 16)))))
      clear hlt4 hcell hgr HN
      generalize l.getD (j - 3) 0 = y0 at *
      generalize l.getD (j - 8) 0 = y1 at *
      generalize l.getD (j - 14) 0 = y2 at *
      generalize l.getD (j - 16) 0 = y3 at *
      have HLC := Lib.hid (show (aF l).length = j by unfold aF; simpa using hll)
      clear hl hll
      go_upto_region 12 with fail
      refine mL 51 25 5 192 0 (jJ (.slice (some ⟨g', 0, none⟩) j cap) g' j y0 y1 y2 y3) w.heap.size 133 132 i0 (.int .u32 0) (.slice (some ⟨g', 0, none⟩) j cap) j (aF l) [.int .u32 ((bY (y0 ^^^ y1 ^^^ y2 ^^^ y3) 1 : Nat) : Int)]
       (by kernel_rfl) (by kernel_rfl) rfl (by kernel_rfl) (by kernel_rfl) rfl (by omega) (by omega) Tryz.underlying133 hi hz0 hz1 (by omega) rfl HOWN.out HK2.out.2.2.size (by simp) (by simp [Value.oneCell']) (by simp; omega)
       ?hops ?hbuild _ _ rfl rfl rfl rfl (by omega) rfl rfl rfl rfl rfl ?hK
      case hops =>
       intro i hi' y w3 hf hg hw
       rcases (show i = 0 \/ i = 1 \/ i = 2 \/ i = 3 \/ i = 4 \/ i = 5 \/ i = 6 \/ i = 7 \/ i = 8 \/ i = 9 \/ i = 10 \/ i = 11 \/ i = 12 \/ i = 13 \/ i = 14 \/ i = 15 \/ i = 16 \/ i = 17 \/ i = 18 \/ i = 19 \/ i = 20 \/ i = 21 \/ i = 22 \/ i = 23 \/ i = 24 by omega) with rfl | rfl | rfl | rfl | rfl | rfl | rfl | rfl | rfl | rfl | rfl | rfl | rfl | rfl | rfl | rfl | rfl | rfl | rfl | rfl | rfl | rfl | rfl | rfl | rfl
       ·have e0 : y.tmps[5]?.getD undef = .slice (some ⟨g', 0, none⟩) j cap := by rw [hf.2.2 5 (by omega)]; rfl
        clear hf hw hg
        refine aA (v := jJ (.slice (some ⟨g', 0, none⟩) j cap) g' j y0 y1 y2 y3 0) (w' := w3) rfl rfl ?_ ⟨rfl, aC _ _⟩
        go_simp
        rfl
       ·have e0 : y.tmps[5]?.getD undef = .slice (some ⟨g', 0, none⟩) j cap := by rw [hf.2.2 5 (by omega)]; rfl
        clear hf hw hg
        refine aA (v := jJ (.slice (some ⟨g', 0, none⟩) j cap) g' j y0 y1 y2 y3 1) (w' := w3) rfl rfl ?_ ⟨rfl, aC _ _⟩
        go_simp
        rfl
       ·have e0 : y.tmps[6]?.getD undef = .int .i64 (j : Int) := by rw [hf.2.2 6 (by omega)]; rfl
        clear hf hw hg
        refine aA (v := jJ (.slice (some ⟨g', 0, none⟩) j cap) g' j y0 y1 y2 y3 2) (w' := w3) rfl rfl ?_ ⟨rfl, aC _ _⟩
        go_simp
        rfl
       ·have e1 : y.tmps[53]?.getD undef = .int .i64 (j : Int) := hw 2 (of_decide_eq_true (by kernel_rfl)) (by omega)
        have w0 : IntKind.i64.wrap ((j : Int) - 3) = ((j - 3 : Nat) : Int) := by rw [IntWalk.i64_in _ (by omega)]; omega
        clear hf hw hg
        refine aA (v := jJ (.slice (some ⟨g', 0, none⟩) j cap) g' j y0 y1 y2 y3 3) (w' := w3) rfl rfl ?_ ⟨rfl, aC _ _⟩
        go_simp
        rfl
       ·obtain ⟨ix, hix⟩ : ∃ ix, ix = j - 3 := ⟨_, rfl⟩
        have e1 : y.tmps[54]?.getD undef = .int .i64 ((j - 3 : Nat) : Int) := hw 3 (of_decide_eq_true (by kernel_rfl)) (by omega)
        have e0 : y.tmps[52]?.getD undef = .slice (some ⟨g', 0, none⟩) j cap := hw 1 (of_decide_eq_true (by kernel_rfl)) (by omega)
        have hxl : (ix : Int) < (j : Int) := by omega
        rw [<- hix] at e1
        have HV : Hid (jJ (.slice (some ⟨g', 0, none⟩) j cap) g' j y0 y1 y2 y3 4 = .pointer (some ⟨g', ix, none⟩)) := Lib.hid (by rw [hix]; rfl)
        rw [HV.out]
        clear hf hw hg hix
        refine aA (v := .pointer (some ⟨g', ix, none⟩)) (w' := w3) rfl rfl ?_ ⟨rfl, aC _ _⟩
        go_simp
       ·have e1 : y.tmps[55]?.getD undef = .pointer (some ⟨g', j - 3, none⟩) := hw 4 (of_decide_eq_true (by kernel_rfl)) (by omega)
        have hcx : w3.cell? ⟨g', j - 3, none⟩ = some (.int .u32 (y0 : Int)) := HCy0.out w3 hg
        clear hf hw hg
        refine aA (v := jJ (.slice (some ⟨g', 0, none⟩) j cap) g' j y0 y1 y2 y3 5) (w' := w3) rfl rfl ?_ ⟨rfl, aC _ _⟩
        go_simp
        rfl
       ·have e0 : y.tmps[5]?.getD undef = .slice (some ⟨g', 0, none⟩) j cap := by rw [hf.2.2 5 (by omega)]; rfl
        clear hf hw hg
        refine aA (v := jJ (.slice (some ⟨g', 0, none⟩) j cap) g' j y0 y1 y2 y3 6) (w' := w3) rfl rfl ?_ ⟨rfl, aC _ _⟩
        go_simp
        rfl
       ·have e0 : y.tmps[6]?.getD undef = .int .i64 (j : Int) := by rw [hf.2.2 6 (by omega)]; rfl
        clear hf hw hg
        refine aA (v := jJ (.slice (some ⟨g', 0, none⟩) j cap) g' j y0 y1 y2 y3 7) (w' := w3) rfl rfl ?_ ⟨rfl, aC _ _⟩
        go_simp
        rfl
       ·have e1 : y.tmps[58]?.getD undef = .int .i64 (j : Int) := hw 7 (of_decide_eq_true (by kernel_rfl)) (by omega)
        have w0 : IntKind.i64.wrap ((j : Int) - 8) = ((j - 8 : Nat) : Int) := by rw [IntWalk.i64_in _ (by omega)]; omega
        clear hf hw hg
        refine aA (v := jJ (.slice (some ⟨g', 0, none⟩) j cap) g' j y0 y1 y2 y3 8) (w' := w3) rfl rfl ?_ ⟨rfl, aC _ _⟩
        go_simp
        rfl
       ·obtain ⟨ix, hix⟩ : ∃ ix, ix = j - 8 := ⟨_, rfl⟩
        have e1 : y.tmps[59]?.getD undef = .int .i64 ((j - 8 : Nat) : Int) := hw 8 (of_decide_eq_true (by kernel_rfl)) (by omega)
        have e0 : y.tmps[57]?.getD undef = .slice (some ⟨g', 0, none⟩) j cap := hw 6 (of_decide_eq_true (by kernel_rfl)) (by omega)
        have hxl : (ix : Int) < (j : Int) := by omega
        rw [<- hix] at e1
        have HV : Hid (jJ (.slice (some ⟨g', 0, none⟩) j cap) g' j y0 y1 y2 y3 9 = .pointer (some ⟨g', ix, none⟩)) := Lib.hid (by rw [hix]; rfl)
        rw [HV.out]
        clear hf hw hg hix
        refine aA (v := .pointer (some ⟨g', ix, none⟩)) (w' := w3) rfl rfl ?_ ⟨rfl, aC _ _⟩
        go_simp
       ·have e1 : y.tmps[60]?.getD undef = .pointer (some ⟨g', j - 8, none⟩) := hw 9 (of_decide_eq_true (by kernel_rfl)) (by omega)
        have hcx : w3.cell? ⟨g', j - 8, none⟩ = some (.int .u32 (y1 : Int)) := HCy1.out w3 hg
        clear hf hw hg
        refine aA (v := jJ (.slice (some ⟨g', 0, none⟩) j cap) g' j y0 y1 y2 y3 10) (w' := w3) rfl rfl ?_ ⟨rfl, aC _ _⟩
        go_simp
        rfl
       ·have e1 : y.tmps[56]?.getD undef = .int .u32 (y0 : Int) := hw 5 (of_decide_eq_true (by kernel_rfl)) (by omega)
        have e2 : y.tmps[61]?.getD undef = .int .u32 (y1 : Int) := hw 10 (of_decide_eq_true (by kernel_rfl)) (by omega)
        have HX := Lib.hid (u32_xor_nat (y0) (y1) HY.out.1 HY.out.2.1)
        clear hf hw hg
        refine aA (v := jJ (.slice (some ⟨g', 0, none⟩) j cap) g' j y0 y1 y2 y3 11) (w' := w3) rfl rfl ?_ ⟨rfl, aC _ _⟩
        go_simp
        first | exact congrArg (Value.int .u32) HX.out | (rw [HX.out]; rfl)
       ·have e0 : y.tmps[5]?.getD undef = .slice (some ⟨g', 0, none⟩) j cap := by rw [hf.2.2 5 (by omega)]; rfl
        clear hf hw hg
        refine aA (v := jJ (.slice (some ⟨g', 0, none⟩) j cap) g' j y0 y1 y2 y3 12) (w' := w3) rfl rfl ?_ ⟨rfl, aC _ _⟩
        go_simp
        rfl
       ·have e0 : y.tmps[6]?.getD undef = .int .i64 (j : Int) := by rw [hf.2.2 6 (by omega)]; rfl
        clear hf hw hg
        refine aA (v := jJ (.slice (some ⟨g', 0, none⟩) j cap) g' j y0 y1 y2 y3 13) (w' := w3) rfl rfl ?_ ⟨rfl, aC _ _⟩
        go_simp
        rfl
       ·have e1 : y.tmps[64]?.getD undef = .int .i64 (j : Int) := hw 13 (of_decide_eq_true (by kernel_rfl)) (by omega)
        have w0 : IntKind.i64.wrap ((j : Int) - 14) = ((j - 14 : Nat) : Int) := by rw [IntWalk.i64_in _ (by omega)]; omega
        clear hf hw hg
        refine aA (v := jJ (.slice (some ⟨g', 0, none⟩) j cap) g' j y0 y1 y2 y3 14) (w' := w3) rfl rfl ?_ ⟨rfl, aC _ _⟩
        go_simp
        rfl
       ·obtain ⟨ix, hix⟩ : ∃ ix, ix = j - 14 := ⟨_, rfl⟩
        have e1 : y.tmps[65]?.getD undef = .int .i64 ((j - 14 : Nat) : Int) := hw 14 (of_decide_eq_true (by kernel_rfl)) (by omega)
        have e0 : y.tmps[63]?.getD undef = .slice (some ⟨g', 0, none⟩) j cap := hw 12 (of_decide_eq_true (by kernel_rfl)) (by omega)
        have hxl : (ix : Int) < (j : Int) := by omega
        rw [<- hix] at e1
        have HV : Hid (jJ (.slice (some ⟨g', 0, none⟩) j cap) g' j y0 y1 y2 y3 15 = .pointer (some ⟨g', ix, none⟩)) := Lib.hid (by rw [hix]; rfl)
        rw [HV.out]
        clear hf hw hg hix
        refine aA (v := .pointer (some ⟨g', ix, none⟩)) (w' := w3) rfl rfl ?_ ⟨rfl, aC _ _⟩
        go_simp
       ·have e1 : y.tmps[66]?.getD undef = .pointer (some ⟨g', j - 14, none⟩) := hw 15 (of_decide_eq_true (by kernel_rfl)) (by omega)
        have hcx : w3.cell? ⟨g', j - 14, none⟩ = some (.int .u32 (y2 : Int)) := HCy2.out w3 hg
        clear hf hw hg
        refine aA (v := jJ (.slice (some ⟨g', 0, none⟩) j cap) g' j y0 y1 y2 y3 16) (w' := w3) rfl rfl ?_ ⟨rfl, aC _ _⟩
        go_simp
        rfl
       ·have e1 : y.tmps[62]?.getD undef = .int .u32 ((y0 ^^^ y1 : Nat) : Int) := hw 11 (of_decide_eq_true (by kernel_rfl)) (by omega)
        have e2 : y.tmps[67]?.getD undef = .int .u32 (y2 : Int) := hw 16 (of_decide_eq_true (by kernel_rfl)) (by omega)
        have HX := Lib.hid (u32_xor_nat (y0 ^^^ y1) (y2) (Nat.xor_lt_two_pow (n := 32) HY.out.1 HY.out.2.1) HY.out.2.2.1)
        clear hf hw hg
        refine aA (v := jJ (.slice (some ⟨g', 0, none⟩) j cap) g' j y0 y1 y2 y3 17) (w' := w3) rfl rfl ?_ ⟨rfl, aC _ _⟩
        go_simp
        first | exact congrArg (Value.int .u32) HX.out | (rw [HX.out]; rfl)
       ·have e0 : y.tmps[5]?.getD undef = .slice (some ⟨g', 0, none⟩) j cap := by rw [hf.2.2 5 (by omega)]; rfl
        clear hf hw hg
        refine aA (v := jJ (.slice (some ⟨g', 0, none⟩) j cap) g' j y0 y1 y2 y3 18) (w' := w3) rfl rfl ?_ ⟨rfl, aC _ _⟩
        go_simp
        rfl
       ·have e0 : y.tmps[6]?.getD undef = .int .i64 (j : Int) := by rw [hf.2.2 6 (by omega)]; rfl
        clear hf hw hg
        refine aA (v := jJ (.slice (some ⟨g', 0, none⟩) j cap) g' j y0 y1 y2 y3 19) (w' := w3) rfl rfl ?_ ⟨rfl, aC _ _⟩
        go_simp
        rfl
       ·have e1 : y.tmps[70]?.getD undef = .int .i64 (j : Int) := hw 19 (of_decide_eq_true (by kernel_rfl)) (by omega)
        have w0 : IntKind.i64.wrap ((j : Int) - 16) = ((j - 16 : Nat) : Int) := by rw [IntWalk.i64_in _ (by omega)]; omega
        clear hf hw hg
        refine aA (v := jJ (.slice (some ⟨g', 0, none⟩) j cap) g' j y0 y1 y2 y3 20) (w' := w3) rfl rfl ?_ ⟨rfl, aC _ _⟩
        go_simp
        rfl
       ·obtain ⟨ix, hix⟩ : ∃ ix, ix = j - 16 := ⟨_, rfl⟩
        have e1 : y.tmps[71]?.getD undef = .int .i64 ((j - 16 : Nat) : Int) := hw 20 (of_decide_eq_true (by kernel_rfl)) (by omega)
        have e0 : y.tmps[69]?.getD undef = .slice (some ⟨g', 0, none⟩) j cap := hw 18 (of_decide_eq_true (by kernel_rfl)) (by omega)
        have hxl : (ix : Int) < (j : Int) := by omega
        rw [<- hix] at e1
        have HV : Hid (jJ (.slice (some ⟨g', 0, none⟩) j cap) g' j y0 y1 y2 y3 21 = .pointer (some ⟨g', ix, none⟩)) := Lib.hid (by rw [hix]; rfl)
        rw [HV.out]
        clear hf hw hg hix
        refine aA (v := .pointer (some ⟨g', ix, none⟩)) (w' := w3) rfl rfl ?_ ⟨rfl, aC _ _⟩
        go_simp
       ·have e1 : y.tmps[72]?.getD undef = .pointer (some ⟨g', j - 16, none⟩) := hw 21 (of_decide_eq_true (by kernel_rfl)) (by omega)
        have hcx : w3.cell? ⟨g', j - 16, none⟩ = some (.int .u32 (y3 : Int)) := HCy3.out w3 hg
        clear hf hw hg
        refine aA (v := jJ (.slice (some ⟨g', 0, none⟩) j cap) g' j y0 y1 y2 y3 22) (w' := w3) rfl rfl ?_ ⟨rfl, aC _ _⟩
        go_simp
        rfl
       ·have e1 : y.tmps[68]?.getD undef = .int .u32 ((y0 ^^^ y1 ^^^ y2 : Nat) : Int) := hw 17 (of_decide_eq_true (by kernel_rfl)) (by omega)
        have e2 : y.tmps[73]?.getD undef = .int .u32 (y3 : Int) := hw 22 (of_decide_eq_true (by kernel_rfl)) (by omega)
        have HX := Lib.hid (u32_xor_nat (y0 ^^^ y1 ^^^ y2) (y3) (Nat.xor_lt_two_pow (n := 32) (Nat.xor_lt_two_pow (n := 32) HY.out.1 HY.out.2.1) HY.out.2.2.1) HY.out.2.2.2)
        clear hf hw hg
        refine aA (v := jJ (.slice (some ⟨g', 0, none⟩) j cap) g' j y0 y1 y2 y3 23) (w' := w3) rfl rfl ?_ ⟨rfl, aC _ _⟩
        go_simp
        first | exact congrArg (Value.int .u32) HX.out | (rw [HX.out]; rfl)
       ·have e1 : y.tmps[74]?.getD undef = .int .u32 ((y0 ^^^ y1 ^^^ y2 ^^^ y3 : Nat) : Int) := hw 23 (of_decide_eq_true (by kernel_rfl)) (by omega)
        have HT := Lib.hid ((wV (y0 ^^^ y1 ^^^ y2 ^^^ y3) 1 w3 (Nat.xor_lt_two_pow (n := 32) (Nat.xor_lt_two_pow (n := 32) (Nat.xor_lt_two_pow (n := 32) HY.out.1 HY.out.2.1) HY.out.2.2.1) HY.out.2.2.2) (Or.inl rfl)).mono (fun e w4 ⟨he, d, hd⟩ => show ∃ v, e = Ending.returned v /\ y.put (some (51 + 24)) v = y.put (some (51 + 24)) (jJ (.slice (some ⟨g', 0, none⟩) j cap) g' j y0 y1 y2 y3 24) /\ w3.grownBy w4 none from ⟨_, he, rfl, by rw [hd]; exact cY (aC _ _) d⟩))
        clear hf hw hg
        refine aP rfl rfl ?_ HT.out
        go_simp
      case hbuild =>
       intro y w3 hw
       have e1 : y.tmps[75]?.getD undef = .int .u32 ((bY (y0 ^^^ y1 ^^^ y2 ^^^ y3) 1 : Nat) : Int) := hw 24 (of_decide_eq_true (by kernel_rfl)) (by omega)
       refine ⟨_, rfl, rfl, rfl, ?_⟩
       clear hw
       go_simp
      case hK =>
       intro y w4 g2 cap2 h1 h2 h3 h4 h5 h6 h7
       have HO := Lib.hid h5
       have HK4 := Lib.hid (fU.row (fU.new HK2.out (pK (aC _ _))) h6 (fun k hk => (HOWN.out.lt k hk).1) HNE.out)
       have hne4 : some g ≠ (Value.slice (some ⟨g2, 0, none⟩) (j + 1) cap2).ownBlock := by
        intro e
        have e : g = g2 := by simpa [Value.ownBlock] using e
        rcases h7 with h | h
        ·exact HNE.out (by rw [h, e])
        ·have := HK2.out.1.lt
         omega
       have HNE4 := Lib.hid hne4
       clear h5 h6 h7 hne4
       obtain ⟨ys, hys, rfl⟩ := uC 51 27 5 _ h1 (by exact h2) (fun s e k => h3 s e (by omega)) h4 (by omega) (by show 78 <= 192; omega)
       obtain ⟨k0, k1, k2, k3, k4, k5, k6, k7, k8, k9, k10, k11, k12, k13, k14, k15, k16, k17, k18, k19, k20, k21, k22, k23, k24, k25, k26, rfl⟩ := Yz ys hys
       clear h1 h2 h3 h4 hys
       simp only [List.take_succ_cons, List.take_zero, List.drop_succ_cons, List.drop_zero, List.cons_append, List.nil_append, List.set_cons_zero, List.set_cons_succ]
       go_wp2_with fail
       go_roundw
       case rel => exact ⟨j + 1, by omega, by go_num, by rw [HE.out]; exact HO.out, HNE4.out, HK4.out⟩
       case measure => simp [intOf] <;> omega
    ·obtain rfl : j = 80 := by omega
     obtain ⟨L, hL⟩ : ∃ L, L = bM (bN M.data.toList q) 80 := ⟨_, rfl⟩
     have HLen : Hid (L.length = 80) := Lib.hid (by rw [hL]; exact bZ _ 80)
     obtain ⟨x0, hx0⟩ : ∃ x0, x0 = gN M.data.toList q := ⟨_, rfl⟩
     have HNX : Hid (gN M.data.toList (q + 1) = x0.plus (gW L 80 x0)) := Lib.hid (by rw [hL, hx0]; rfl)
     have HOK : Hid x0.ok := Lib.hid (by rw [hx0]; exact wW _ _)
     rw [<- hx0] at HH
     rw [<- hL] at HOWN
     clear hx0 hL
     obtain ⟨g', cap, hu5, hg0, hg1⟩ := HOWN.out.form (by omega)
     have hu5 : u5 = .slice (some ⟨g', 0, none⟩) 80 cap := hu5
     subst hu5
     have r0 : wr.cell? ⟨g, 0, none⟩ = some (.int .u32 (x0.a : Int)) := by rw [HK2.out.1.cell, HH.out]; rfl
     have r1 : wr.cell? ⟨g, 1, none⟩ = some (.int .u32 (x0.b : Int)) := by rw [HK2.out.1.cell, HH.out]; rfl
     have r2 : wr.cell? ⟨g, 2, none⟩ = some (.int .u32 (x0.c : Int)) := by rw [HK2.out.1.cell, HH.out]; rfl
     have r3 : wr.cell? ⟨g, 3, none⟩ = some (.int .u32 (x0.d : Int)) := by rw [HK2.out.1.cell, HH.out]; rfl
     have r4 : wr.cell? ⟨g, 4, none⟩ = some (.int .u32 (x0.e : Int)) := by rw [HK2.out.1.cell, HH.out]; rfl
     go_wp2_with fail
     go_quiet (fail)
     go_wp2_with fail
     clear r0 r1 r2 r3 r4
     go_loopw [7, 8, 9, 10, 11, 12] (fun v7 v8 v9 v10 v11 i w3 => ∃ (t : Nat) (x : St), t <= 80 /\ i = .int .i64 (t : Int) /\ x = gW L t x0 /\ v7 = .int .u32 (x.a : Int) /\ v8 = .int .u32 (x.b : Int) /\ v9 = .int .u32 (x.c : Int) /\ v10 = .int .u32 (x.d : Int) /\ v11 = .int .u32 (x.e : Int) /\ fU w w3 g H /\ w3.ownsRow w.heap.size 132 1 (.slice (some ⟨g', 0, none⟩) 80 cap) 80 (aF L)) (fun _ _ _ _ _ i _ => 80 - (intOf i).toNat)
     case atStart => exact ⟨0, x0, by omega, rfl, rfl, rfl, rfl, rfl, rfl, rfl, fU.new HK2.out (cY (aC _ _) _), HOWN.out⟩
     case round =>
      clear HOWN HK2
      obtain ⟨t, x, ht, rfl, hx, rfl, rfl, rfl, rfl, rfl, hk3, hown3⟩ := hrel
      have HK3 := Lib.hid hk3
      have HOW3 := Lib.hid hown3
      have hok : x.ok := by rw [hx]; exact Al L t HOK.out
      clear hk3 hown3
      by_cases ht80 : t < 80
      ·have HN : Hid (gW L (t + 1) x0 = Ak (L.getD t 0) t x) := Lib.hid (by rw [hx]; rfl)
       clear hx
       have hcw : wr.cell? ⟨g', t, none⟩ = some (.int .u32 ((L.getD t 0 : Nat) : Int)) := by
        have := HOW3.out.cells (g := g') rfl t (.int .u32 ((L.getD t 0 : Nat) : Int)) (by have h := iM (l := L) (i := t) (by rw [HLen.out]; exact ht80); simpa using h)
        rw [fY, Nat.zero_add] at this
        exact this
       have ht80I : (t : Int) < 80 := by omega
       obtain ⟨y, hy⟩ : ∃ y, y = L.getD t 0 := ⟨_, rfl⟩
       rw [<- hy] at hcw HN
       clear hy
       obtain ⟨xa, xb, xc, xd, xe⟩ := x
       obtain ⟨ha, hb, hc, hd, he⟩ := hok
       simp only at ha hb hc hd he
       simp only
       have hxor : bits .xor .u32 (bits .xor .u32 (xb : Int) (xc : Int)) (xd : Int) = ((xb ^^^ xc ^^^ xd : Nat) : Int) := by
        rw [u32_xor_nat xb xc hb hc, u32_xor_nat _ xd (Nat.xor_lt_two_pow (n := 32) hb hc) hd]
       have hand : bits .or .u32 (bits .and .u32 (xb : Int) (xc : Int)) (bits .and .u32 (bits .xor .u32 IntKind.u32.max (xb : Int)) (xd : Int)) = (((xb &&& xc) ||| ((4294967295 ^^^ xb) &&& xd) : Nat) : Int) := by
        rw [u32_and_nat xb xc hb hc, rM xb hb, u32_and_nat _ xd (Nat.xor_lt_two_pow (n := 32) (by decide) hb) hd, u32_or_nat _ _ (Nat.and_lt_two_pow (n := 32) _ hc) (Nat.and_lt_two_pow (n := 32) _ hd)]
       have hmaj : bits .or .u32 (bits .or .u32 (bits .and .u32 (xb : Int) (xc : Int)) (bits .and .u32 (xb : Int) (xd : Int))) (bits .and .u32 (xc : Int) (xd : Int)) = ((((xb &&& xc) ||| (xb &&& xd)) ||| (xc &&& xd) : Nat) : Int) := by
        have g1 : xb &&& xc < 4294967296 := Nat.and_lt_two_pow (n := 32) _ hc
        have g2 : xb &&& xd < 4294967296 := Nat.and_lt_two_pow (n := 32) _ hd
        have g3 : xc &&& xd < 4294967296 := Nat.and_lt_two_pow (n := 32) _ hd
        rw [u32_and_nat xb xc hb hc, u32_and_nat xb xd hb hd, u32_and_nat xc xd hc hd, u32_or_nat _ _ g1 g2, u32_or_nat _ _ (Nat.or_lt_two_pow (n := 32) g1 g2) g3]
       have HRa := Lib.hid (fun w => wV xa 5 w ha (Or.inr (Or.inl rfl)))
       have HRb := Lib.hid (fun w => wV xb 30 w hb (Or.inr (Or.inr rfl)))
       unfold Ak at HN
       simp only at HN
       obtain ⟨ff, hff⟩ : ∃ F, F = jQ t xb xc xd := ⟨_, rfl⟩
       obtain ⟨kk, hkk⟩ : ∃ k, k = pX t := ⟨_, rfl⟩
       obtain ⟨ra, hra⟩ : ∃ r, r = bY xa 5 := ⟨_, rfl⟩
       obtain ⟨rb, hrb⟩ : ∃ r, r = bY xb 30 := ⟨_, rfl⟩
       rw [<- hff, <- hkk, <- hra, <- hrb] at HN
       rw [<- hra] at HRa
       rw [<- hrb] at HRb
       clear hra hrb ha hb hc hd he
       by_cases h20 : t < 20
       ·have g1 : (t : Int) < 20 := by omega
        have HKv : Hid (Value.int .u32 1518500249 = .int .u32 ((kk : Nat) : Int)) := Lib.hid (by rw [hkk]; unfold pX; rw [if_pos h20]; rfl)
        have HFv : Hid (bits .or .u32 (bits .and .u32 (xb : Int) (xc : Int)) (bits .and .u32 (bits .xor .u32 IntKind.u32.max (xb : Int)) (xd : Int)) = ((ff : Nat) : Int)) := Lib.hid (by rw [hff]; unfold jQ; rw [if_pos h20]; exact hand)
        clear hff hkk hxor hand hmaj
        go_wp2_with fail
        rw [HFv.out, HKv.out]
        clear HFv HKv
        go_quiet (first | (go_at_call 73; refine Calls.quiet_of (HRa.out _)))
        go_wp2_with (go_at_call 73; refine (HRb.out _).mono ?_; rintro e4 w4 ⟨rfl, d4, rfl⟩)
        go_wp2_with fail
        refine ⟨?_, ?measure⟩
        ·iterate 40 (apply Exists.intro)
         repeat (apply Exists.intro)
         refine ⟨?_, rfl⟩
         exact ⟨t + 1, gW L (t + 1) x0, by omega, by go_num, rfl, by rw [HN.out, Ro], by rw [HN.out], by rw [HN.out], by rw [HN.out], by rw [HN.out], fU.new HK3.out (cY (aC _ _) _), HOW3.out⟩
        case measure => simp [intOf] <;> omega
       ·by_cases h40 : t < 40
        ·have g1 : ¬ (t : Int) < 20 := by omega
         have g2 : decide ((40 : Int) <= (t : Int)) = false := decide_eq_false (by omega)
         have g3 : ¬ (60 : Int) <= (t : Int) := by omega
         have HKv : Hid (Value.int .u32 1859775393 = .int .u32 ((kk : Nat) : Int)) := Lib.hid (by rw [hkk]; unfold pX; rw [if_neg h20, if_pos h40]; rfl)
         have HFv : Hid (bits .xor .u32 (bits .xor .u32 (xb : Int) (xc : Int)) (xd : Int) = ((ff : Nat) : Int)) := Lib.hid (by rw [hff]; unfold jQ; rw [if_neg h20, if_pos h40]; exact hxor)
         clear hff hkk hxor hand hmaj
         go_wp2_with fail
         rw [HFv.out, HKv.out]
         clear HFv HKv
         go_quiet (first | (go_at_call 73; refine Calls.quiet_of (HRa.out _)))
         go_wp2_with (go_at_call 73; refine (HRb.out _).mono ?_; rintro e4 w4 ⟨rfl, d4, rfl⟩)
         go_wp2_with fail
         refine ⟨?_, ?measure⟩
         ·iterate 40 (apply Exists.intro)
          repeat (apply Exists.intro)
          refine ⟨?_, rfl⟩
          exact ⟨t + 1, gW L (t + 1) x0, by omega, by go_num, rfl, by rw [HN.out, Ro], by rw [HN.out], by rw [HN.out], by rw [HN.out], by rw [HN.out], fU.new HK3.out (cY (aC _ _) _), HOW3.out⟩
         case measure => simp [intOf] <;> omega
        ·by_cases h60 : t < 60
         ·have g1 : ¬ (t : Int) < 20 := by omega
          have g2 : (40 : Int) <= (t : Int) := by omega
          have g3 : (t : Int) < 60 := by omega
          have HKv : Hid (Value.int .u32 2400959708 = .int .u32 ((kk : Nat) : Int)) := Lib.hid (by rw [hkk]; unfold pX; rw [if_neg h20, if_neg h40, if_pos h60]; rfl)
          have HFv : Hid (bits .or .u32 (bits .or .u32 (bits .and .u32 (xb : Int) (xc : Int)) (bits .and .u32 (xb : Int) (xd : Int))) (bits .and .u32 (xc : Int) (xd : Int)) = ((ff : Nat) : Int)) := Lib.hid (by rw [hff]; unfold jQ; rw [if_neg h20, if_neg h40, if_pos h60]; exact hmaj)
          clear hff hkk hxor hand hmaj
          go_wp2_with fail
          rw [HFv.out, HKv.out]
          clear HFv HKv
          go_quiet (first | (go_at_call 73; refine Calls.quiet_of (HRa.out _)))
          go_wp2_with (go_at_call 73; refine (HRb.out _).mono ?_; rintro e4 w4 ⟨rfl, d4, rfl⟩)
          go_wp2_with fail
          refine ⟨?_, ?measure⟩
          ·iterate 40 (apply Exists.intro)
           repeat (apply Exists.intro)
           refine ⟨?_, rfl⟩
           exact ⟨t + 1, gW L (t + 1) x0, by omega, by go_num, rfl, by rw [HN.out, Ro], by rw [HN.out], by rw [HN.out], by rw [HN.out], by rw [HN.out], fU.new HK3.out (cY (aC _ _) _), HOW3.out⟩
          case measure => simp [intOf] <;> omega
         ·have g1 : ¬ (t : Int) < 20 := by omega
          have g2 : (40 : Int) <= (t : Int) := by omega
          have g3 : ¬ (t : Int) < 60 := by omega
          have g4 : (60 : Int) <= (t : Int) := by omega
          have HKv : Hid (Value.int .u32 3395469782 = .int .u32 ((kk : Nat) : Int)) := Lib.hid (by rw [hkk]; unfold pX; rw [if_neg h20, if_neg h40, if_neg h60]; rfl)
          have HFv : Hid (bits .xor .u32 (bits .xor .u32 (xb : Int) (xc : Int)) (xd : Int) = ((ff : Nat) : Int)) := Lib.hid (by rw [hff]; unfold jQ; rw [if_neg h20, if_neg h40, if_neg h60]; exact hxor)
          clear hff hkk hxor hand hmaj
          go_wp2_with fail
          rw [HFv.out, HKv.out]
          clear HFv HKv
          go_quiet (first | (go_at_call 73; refine Calls.quiet_of (HRa.out _)))
          go_wp2_with (go_at_call 73; refine (HRb.out _).mono ?_; rintro e4 w4 ⟨rfl, d4, rfl⟩)
          go_wp2_with fail
          refine ⟨?_, ?measure⟩
          ·iterate 40 (apply Exists.intro)
           repeat (apply Exists.intro)
           refine ⟨?_, rfl⟩
           exact ⟨t + 1, gW L (t + 1) x0, by omega, by go_num, rfl, by rw [HN.out, Ro], by rw [HN.out], by rw [HN.out], by rw [HN.out], by rw [HN.out], fU.new HK3.out (cY (aC _ _) _), HOW3.out⟩
          case measure => simp [intOf] <;> omega
      ·obtain rfl : t = 80 := by omega
       have HXX := Lib.hid hx
       have r0 : wr.cell? ⟨g, 0, none⟩ = some (.int .u32 (x0.a : Int)) := by rw [HK3.out.1.cell, HH.out]; rfl
       have r1 : wr.cell? ⟨g, 1, none⟩ = some (.int .u32 (x0.b : Int)) := by rw [HK3.out.1.cell, HH.out]; rfl
       have r2 : wr.cell? ⟨g, 2, none⟩ = some (.int .u32 (x0.c : Int)) := by rw [HK3.out.1.cell, HH.out]; rfl
       have r3 : wr.cell? ⟨g, 3, none⟩ = some (.int .u32 (x0.d : Int)) := by rw [HK3.out.1.cell, HH.out]; rfl
       have r4 : wr.cell? ⟨g, 4, none⟩ = some (.int .u32 (x0.e : Int)) := by rw [HK3.out.1.cell, HH.out]; rfl
       clear hx hok
       go_wp2_with fail
       go_still_tail 25, (by kernel_rfl)
       change wpList _ _ _ _ _ wr.drew
       go_wp2_with fail
       clear r0 r1 r2 r3 r4
       refine ⟨?_, ?measure⟩
       ·refine ⟨q + 1, wr.heap.size, by omega, ⟨A + 64, by have := HA.out; omega, by go_num⟩, rfl, ?_⟩
        have hc : #[Value.int .u32 (((x0.a : Int) + (x.a : Int)) % 4294967296), .int .u32 (((x0.b : Int) + (x.b : Int)) % 4294967296), .int .u32 (((x0.c : Int) + (x.c : Int)) % 4294967296), .int .u32 (((x0.d : Int) + (x.d : Int)) % 4294967296), .int .u32 (((x0.e : Int) + (x.e : Int)) % 4294967296)] = aJ (gN M.data.toList (q + 1)) := by
         rw [HNX.out, <- HXX.out]
         exact xG x0.a x0.b x0.c x0.d x0.e x
        refine ⟨?_, HK3.out.2.2.size, HK3.out.2.2.drew.alloc HK3.out.2.2.size _⟩
        rw [<- hc]
        exact aG.new wr.drew _ _
       case measure => have := HA.out; simp [intOf] <;> omega
  ·obtain rfl : q = Q := by omega
   have hAMI : ¬ (A : Int) < (M.size : Int) := by have := HMQ.out; omega
   obtain ⟨st, hst⟩ : ∃ st, st = gN M.data.toList q := ⟨_, rfl⟩
   rw [<- hst] at HK
   have HST := Lib.hid hst
   have hok : st.ok := by rw [hst]; exact wW _ _
   have HOK := Lib.hid hok
   clear hst hA hok
   go_wp2_with fail
   go_loopw [16, 17] (fun o i w2 => ∃ j : Nat, j <= 5 /\ i = .int .i64 (j : Int) /\ o = .string ⟨((st.words.take j).flatMap fun x => aX x 4).toArray⟩ /\ fU w w2 g (aJ st)) (fun _ i _ => 5 - (intOf i).toNat)
   case atStart => exact ⟨0, by omega, rfl, rfl, HK.out⟩
   case round =>
    obtain ⟨j, hj, rfl, rfl, hk2⟩ := hrel
    have HK2 := Lib.hid hk2
    clear hk2
    by_cases hj5 : j < 5
    ·obtain ⟨y, hy⟩ : ∃ y, y = st.words.getD j 0 := ⟨_, rfl⟩
     have hyl : y < 4294967296 := by
      rw [hy]
      have h := HOK.out
      match j, hj5 with
      | 0, _ => exact h.1
      | 1, _ => exact h.2.1
      | 2, _ => exact h.2.2.1
      | 3, _ => exact h.2.2.2.1
      | 4, _ => exact h.2.2.2.2
     have hcj : wr.cell? ⟨g, j, none⟩ = some (.int .u32 (y : Int)) := by
      rw [HK2.out.1.cell, hy]
      match j, hj5 with
      | 0, _ => rfl
      | 1, _ => rfl
      | 2, _ => rfl
      | 3, _ => rfl
      | 4, _ => rfl
     have hw5 : st.words[j]? = some y := by
      rw [hy]
      match j, hj5 with
      | 0, _ => rfl
      | 1, _ => rfl
      | 2, _ => rfl
      | 3, _ => rfl
      | 4, _ => rfl
     have HT : Hid ((st.words.take (j + 1)).flatMap (fun x => aX x 4) = (st.words.take j).flatMap (fun x => aX x 4) ++ aX y 4) := Lib.hid (by rw [List.take_add_one, hw5]; simp)
     have hll := uD st hj5
     obtain ⟨l, hl⟩ : ∃ l, l = (st.words.take j).flatMap fun x => aX x 4 := ⟨_, rfl⟩
     rw [<- hl] at HT hll
     rw [<- hl]
     obtain ⟨O, hO⟩ : ∃ O : ByteArray, O = ⟨l.toArray⟩ := ⟨_, rfl⟩
     obtain ⟨Y, hY⟩ : ∃ Y : ByteArray, Y = ⟨(aX y 4).toArray⟩ := ⟨_, rfl⟩
     have hOs : O.size = 4 * j := by rw [hO]; show l.toArray.size = _; simpa using hll
     have hYs : Y.size = 4 := by rw [hY]; show (aX y 4).toArray.size = 4; simp [cF]
     have HOY : Hid (O ++ Y = ⟨(l ++ aX y 4).toArray⟩) := Lib.hid (by rw [hO, hY]; apply ByteArray.ext; rw [ByteArray.data_append]; simp)
     have HHi : Hid (∀ w3, Calls Tryz.prog 74 #[.int .u64 (y : Int), .int .i64 4] w3 fun e w' => e = .returned (.string Y) /\ Below w3.heap.size w3 w') := Lib.hid (fun w3 => by rw [hY]; exact wT y 4 w3 (by omega) (by omega) (by omega))
     have hsum : O.size + Y.size <= 9223372036854775807 := by omega
     rw [<- hO]
     have hjI : (j : Int) < 5 := by omega
     clear hy hw5 hl hO hY hOs hYs hll
     go_wp2_with (go_at_call 74; refine (HHi.out _).mono ?_; rintro e3 w3 ⟨rfl, hb3⟩)
     go_wp2_with fail
     go_roundw
     case rel => exact ⟨j + 1, by omega, by go_num, by rw [HT.out, HOY.out], HK2.out.1.below hb3 HK2.out.1.lt, HK2.out.2.1, HK2.out.2.2.trans (hb3.mono HK2.out.2.2.size)⟩
     case measure => simp [intOf] <;> omega
    ·obtain rfl : j = 5 := by omega
     go_wp2_with fail
     go_ret
     refine ⟨?_, HK2.out.2.2⟩
     have e : (st.words.take 5).flatMap (fun x => aX x 4) = Cn s.data.toList := by
      rw [show st.words.take 5 = st.words from rfl, xD, HST.out]
      unfold Cn
      rw [<- Lib.size_eq, <- HMD.out, <- Lib.size_eq, HQ.out]
     exact congrArg (fun l : List UInt8 => Ending.returned (.string ⟨l.toArray⟩)) e
set_option maxRecDepth 100000
set_option maxHeartbeats 2000000
theorem tA (k : Int) (s : ByteArray) (xs : List ByteArray) (w : World) (hs : s.size <= 1000000) (hx : s.data.toList = aW xs) :
  Calls Tryz.prog 16 #[.int .i64 k, .string s] w fun e w' => e = .returned (.agg #[.int .i64 k, .string (dE k xs)]) /\ Below w.heap.size w w' := by
 by_cases h1 : k = 1
 ·subst h1
  obtain ⟨T, hT⟩ : ∃ T : ByteArray, T = dE 1 xs := ⟨_, rfl⟩
  have HS : Hid (∀ w, Calls Tryz.prog 36 #[.string s] w fun e w' => e = .returned (.string T) /\ Below w.heap.size w w') := Lib.hid (fun w => by
   have := Yf s w hs
   rw [hx] at this
   rw [hT]
   exact this)
  rw [<- hT]
  clear hT hx
  go_enter Tryz.func16, Tryz.ntmps16
  go_wp2_with fail
  refine (HS.out _).mono ?_
  rintro e w1 ⟨rfl, hb1⟩
  have b1 : aG w1 w.heap.size 36 #[.int .i64 0, .string ⟨#[]⟩] := (aG.new w _ _).below hb1 (by simp)
  have hb : Below w.heap.size w w1 := ((Below.refl _ _).alloc (Nat.le_refl _) _).trans (hb1.mono (by simp))
  have c0 := b1.cell 0
  have c1 := b1.cell 1
  have f0 := b1.frozen 0
  have f1 := b1.frozen 1
  simp at c0 c1
  clear hb1
  go_wp2_with fail
  have b2 := (b1.put 0 (.int .i64 1)).put 1 (.string T)
  have hl : (loadVar 36 ⟨w.heap.size, 0, none⟩).run Tryz.prog ((w1.setCell ⟨w.heap.size, 0, none⟩ (.int .i64 1)).setCell ⟨w.heap.size, 1, none⟩ (.string T)) = .ok (.agg #[.int .i64 1, .string T]) _ :=
   aT (off := 0) b2 (fun j v h => by rw [Nat.zero_add]; exact h) (fun w => by kernel_rfl) (fun w => by kernel_rfl)
  refine dV rfl rfl hl rfl ?_
  exact ⟨rfl, (hb.setCell (Nat.le_refl _) _).setCell (Nat.le_refl _) _⟩
 ·obtain ⟨T, hT⟩ : ∃ T : ByteArray, T = dE k xs := ⟨_, rfl⟩
  have HS : Hid (∀ w, Calls Tryz.prog 37 #[.string s] w fun e w' => e = .returned (.string T) /\ Below w.heap.size w w') := Lib.hid (fun w => by
   have := Rx s w hs
   rw [hx] at this
   rw [hT, show dE k xs = _ from if_neg h1]
   exact this)
  rw [<- hT]
  have e1 : (k == 1) = false := beq_eq_false_iff_ne.2 h1
  clear hT hx h1
  go_enter Tryz.func16, Tryz.ntmps16
  go_wp2_with fail
  refine (HS.out _).mono ?_
  rintro e w1 ⟨rfl, hb1⟩
  have b1 : aG w1 w.heap.size 36 #[.int .i64 0, .string ⟨#[]⟩] := (aG.new w _ _).below hb1 (by simp)
  have hb : Below w.heap.size w w1 := ((Below.refl _ _).alloc (Nat.le_refl _) _).trans (hb1.mono (by simp))
  have c0 := b1.cell 0
  have c1 := b1.cell 1
  have f0 := b1.frozen 0
  have f1 := b1.frozen 1
  simp at c0 c1
  clear hb1
  go_wp2_with fail
  have b2 := (b1.put 0 (.int .i64 k)).put 1 (.string T)
  have hl : (loadVar 36 ⟨w.heap.size, 0, none⟩).run Tryz.prog ((w1.setCell ⟨w.heap.size, 0, none⟩ (.int .i64 k)).setCell ⟨w.heap.size, 1, none⟩ (.string T)) = .ok (.agg #[.int .i64 k, .string T]) _ :=
   aT (off := 0) b2 (fun j v h => by rw [Nat.zero_add]; exact h) (fun w => by kernel_rfl) (fun w => by kernel_rfl)
  refine dV rfl rfl hl rfl ?_
  exact ⟨rfl, (hb.setCell (Nat.le_refl _) _).setCell (Nat.le_refl _) _⟩
theorem Vm {k : Int} {s : ByteArray} : (ByteArray.mk (aD 1 k.toNat).toArray ++ s) ++ aY (32 - s.size) = ⟨(pZ k s).toArray⟩ := by
 apply ByteArray.ext
 apply Array.toList_inj.1
 rw [ByteArray.data_append, Array.toList_append, ByteArray.data_append, Array.toList_append]
 rfl
theorem zL (k : Int) (s : ByteArray) (w : World) (h0 : 0 <= k) (h1 : k < 256) (hs : s.size <= 32) :
  Calls Tryz.prog 17 #[.agg #[.int .i64 k, .string s]] w fun e w' => e = .returned (.string ⟨(pZ k s).toArray⟩) /\ Below w.heap.size w w' := by
 obtain ⟨A, hA⟩ : ∃ A : ByteArray, A = ⟨(aD 1 k.toNat).toArray⟩ := ⟨_, rfl⟩
 obtain ⟨Z, hZ⟩ : ∃ Z : ByteArray, Z = aY (32 - s.size) := ⟨_, rfl⟩
 obtain ⟨z, hz⟩ : ∃ z : Int, z = 32 - (s.size : Int) := ⟨_, rfl⟩
 have HL : Hid (∀ w, Calls Tryz.prog 38 #[.int .u64 k, .int .i64 1] w fun e w' => e = .returned (.string A) /\ Below w.heap.size w w') := Lib.hid (fun w => by
  have := Dr k.toNat 1 w (by omega) (by omega) (by omega)
  rw [Int.toNat_of_nonneg h0, <- hA] at this
  exact this)
 have HZ : Hid (∀ w, Calls Tryz.prog 39 #[.int .i64 z] w fun e w' => e = .returned (.string Z) /\ Below w.heap.size w w') := Lib.hid (fun w => by
  have := Ao (32 - s.size) w (by omega)
  rw [show ((32 - s.size : Nat) : Int) = z by omega, <- hZ] at this
  exact this)
 have HJ : Hid ((A ++ s) ++ Z = ⟨(pZ k s).toArray⟩) := Lib.hid (by rw [hA, hZ]; exact Vm)
 have hAs : A.size = 1 := by rw [hA]; rfl
 have hZs : Z.size = 32 - s.size := by rw [hZ]; exact gD _
 have l1 : ¬ 9223372036854775807 < A.size + s.size := by omega
 have l2 : ¬ 9223372036854775807 < (A ++ s).size + Z.size := by rw [ByteArray.size_append]; omega
 have l3 : ¬ 9223372036854775807 < A.size + s.size + Z.size := by omega
 have hwz : IntKind.i64.wrap (32 - (s.size : Int)) = z := by rw [IntWalk.i64_in _ (by omega)]; omega
 have hk64 : IntKind.u64.wrap k = k := by simp [IntKind.wrap, IntKind.bits, IntKind.signed]; omega
 have b0 : aG (w.alloc (.cells #[.int .i64 k, .string s] 36)) w.heap.size 36 #[.int .i64 k, .string s] := aG.new w _ _
 have hb : Below w.heap.size w (w.alloc (.cells #[.int .i64 k, .string s] 36)) := (Below.refl _ _).alloc (Nat.le_refl _) _
 clear hA hZ hz hAs hZs
 have HWZ := Lib.hid hwz
 have HK := Lib.hid hk64
 clear hwz hk64
 go_enter Tryz.func17, Tryz.ntmps17
 go_upto_region 1 with fail
 obtain ⟨W6, hW6⟩ : ∃ W6, W6 = w.alloc (.cells #[.int .i64 k, .string s] 36) := ⟨_, rfl⟩
 rw [<- hW6] at b0 hb
 rw [<- hW6]
 clear hW6
 have HBW := Lib.hid hb
 have HC : Hid (∀ w', Below W6.heap.size W6 w' -> w'.cell? ⟨w.heap.size, 0, none⟩ = some (.int .i64 k) /\ w'.cell? ⟨w.heap.size, 1, none⟩ = some (.string s)) := Lib.hid (fun w' hw => ⟨(b0.below hw b0.lt).cell 0, (b0.below hw b0.lt).cell 1⟩)
 have h0J : Below W6.heap.size W6 W6.drew := wO (Below.refl _ _)
 clear b0 hb
 refine cE (Below W6.heap.size W6) (by kernel_rfl) (by kernel_rfl) h0J ?_
 apply aE
 ·intro w' hw K hK
  go_simp
  exact hK
 ·exact ⟨_, rfl, Nat.le_of_ble_eq_true rfl⟩
 ·exact ⟨_, h0J⟩
 apply aE
 ·intro w' hw K hK
  obtain ⟨c0, c1⟩ := HC.out w' hw
  go_simp
  exact hK
 ·exact ⟨_, rfl, Nat.le_of_ble_eq_true rfl⟩
 ·exact ⟨_, h0J⟩
 apply aE
 ·intro w' hw K hK
  have hk64 := HK.out
  go_simp
  exact hK
 ·exact ⟨_, rfl, Nat.le_of_ble_eq_true rfl⟩
 ·exact ⟨_, h0J⟩
 refine eI (fun w' hw => (HL.out w').mono fun e w'' ⟨he, hb⟩ => ⟨he, hw.trans (hb.mono hw.size)⟩) (by simp [Region.wanted]) (fun w' hw => by go_simp) ?_
 simp only [Act.put, List.setIfInBounds_toArray, List.set_cons_succ, List.set_cons_zero]
 apply aE
 ·intro w' hw K hK
  go_simp
  exact hK
 ·exact ⟨_, rfl, Nat.le_of_ble_eq_true rfl⟩
 ·exact ⟨_, h0J⟩
 apply aE
 ·intro w' hw K hK
  obtain ⟨c0, c1⟩ := HC.out w' hw
  go_simp
  exact hK
 ·exact ⟨_, rfl, Nat.le_of_ble_eq_true rfl⟩
 ·exact ⟨_, h0J⟩
 apply aE
 ·intro w' hw K hK
  go_simp
  exact hK
 ·exact ⟨_, rfl, Nat.le_of_ble_eq_true rfl⟩
 ·exact ⟨_, h0J⟩
 apply aE
 ·intro w' hw K hK
  go_simp
  exact hK
 ·exact ⟨_, rfl, Nat.le_of_ble_eq_true rfl⟩
 ·exact ⟨_, h0J⟩
 apply aE
 ·intro w' hw K hK
  obtain ⟨c0, c1⟩ := HC.out w' hw
  go_simp
  exact hK
 ·exact ⟨_, rfl, Nat.le_of_ble_eq_true rfl⟩
 ·exact ⟨_, h0J⟩
 apply aE
 ·intro w' hw K hK
  go_simp
  exact hK
 ·exact ⟨_, rfl, Nat.le_of_ble_eq_true rfl⟩
 ·exact ⟨_, h0J⟩
 apply aE
 ·intro w' hw K hK
  have hwz := HWZ.out
  go_simp
  exact hK
 ·exact ⟨_, rfl, Nat.le_of_ble_eq_true rfl⟩
 ·exact ⟨_, h0J⟩
 refine eI (fun w' hw => (HZ.out w').mono fun e w'' ⟨he, hb⟩ => ⟨he, hw.trans (hb.mono hw.size)⟩) (by simp [Region.wanted]) (fun w' hw => by go_simp) ?_
 simp only [Act.put, List.setIfInBounds_toArray, List.set_cons_succ, List.set_cons_zero]
 apply aE
 ·intro w' hw K hK
  go_simp
  exact hK
 ·exact ⟨_, rfl, Nat.le_of_ble_eq_true rfl⟩
 ·exact ⟨_, h0J⟩
 apply aE
 ·intro w' hw K hK
  go_simp
  exact hK
 ·exact ⟨_, rfl, Nat.le_of_ble_eq_true rfl⟩
 ·exact ⟨_, h0J⟩
 refine Uk ?_
 intro w7 hw7
 go_wp2_with fail
 go_ret
 exact ⟨by rw [<- HJ.out]; rfl, HBW.out.trans (hw7.mono HBW.out.size)⟩
end Go.Proofs.YtingkbeifohihaaGreatDoor
