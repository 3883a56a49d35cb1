/-
  Package wal: what a disk holds ahead of any commit, behind it, and where the power went in it. No statement is proved here.
-/
import Derived.Test.YtingkbeifohihaaGreatDoorWalMap
import Derived.Test.YtingkbeifohihaaGreatDoorGrow
import Derived.Test.YtingkbeifohihaaGreatDoorWalCalm
import Derived.Maps.StringElems
namespace Go.Proofs.YtingkbeifohihaaGreatDoor
open Go.RowKit
set_option maxRecDepth 100000
set_option maxHeartbeats 2000000
section
variable {w : World} {gd : Nat} {O : List Nat} {S : DS}
theorem AA (hd : bE w O gd S) (hz : ∀ x ∈ S.now, x.size <= 100000) (hon : S.on = true) (h1 : 0 < S.now.length) {b : ByteArray} (hb : S.read 0 = b) (hbad : (gK b.data.toList).2 ≠ 0) :
  Calls Tryz.prog 90 #[.pointer (some ⟨gd, 0, none⟩)] w fun e w' => e = .returned (.tuple #[.pointer none, .int .i64 25]) /\ Below w.heap.size w w' := by
 have HR : Hid (Calls Tryz.prog 135 #[.pointer (some ⟨gd, 0, none⟩), .int .i64 0] w fun e w' => e = .returned (.tuple #[.string b, .int .i64 0]) /\ Below w.heap.size w w') := Lib.hid (by
  refine (tN 0 hd hz).mono ?_
  rintro e w' ⟨rfl, hb2⟩
  refine ⟨?_, hb2⟩
  rw [hb]
  unfold DS.errR
  rw [if_pos hon, if_pos ⟨by omega, by omega⟩])
 obtain ⟨K, hK⟩ : ∃ K, K = (gK b.data.toList).2 := ⟨_, rfl⟩
 have HRD : Hid (∀ W, Calls Tryz.prog 136 #[.string b] W fun e w' => ∃ s f A n c, e = .returned (.tuple #[.agg #[.int .i64 s, .bool f, .slice A n c], .int .i64 K]) /\ Below W.heap.size W w') := Lib.hid (fun W => by
  refine (Bu b W).mono ?_
  rintro e w' ⟨A, c, rfl, -, -, h3⟩
  rw [<- hK]
  exact ⟨_, _, A, _, c, rfl, h3⟩)
 rw [<- hK] at hbad
 have hbb : (K != 0) = true := bne_iff_ne.2 hbad
 clear hd hz hon h1 hb hK
 go_enter Tryz.func90, Tryz.ntmps90
 go_wp2_with fail
 refine HR.out.mono ?_
 rintro e w1 ⟨rfl, hb1⟩
 have HB1 := Lib.hid hb1
 clear hb1
 go_wp2_with fail
 refine (HRD.out _).mono ?_
 rintro e w2 ⟨s, f, A, n, c, rfl, hb2⟩
 have HB2 := Lib.hid (HB1.out.trans (hb2.mono HB1.out.size))
 clear hb2
 go_wp2_with fail
 go_ret2
 exact ⟨rfl, HB2.out.alloc HB2.out.size _⟩
theorem Gr (hd : bE w O gd S) (hz : ∀ x ∈ S.now, x.size <= 100000) (hon : S.on = true) (h1 : 0 < S.now.length) {b : ByteArray} (hb : S.read 0 = b) {q : Int}
  (hRD : ∀ W, Calls Tryz.prog 136 #[.string b] W fun e w' => ∃ A c, e = .returned (.tuple #[.agg #[.int .i64 q, .bool false, .slice A 0 c], .int .i64 0]) /\ Below W.heap.size W w') :
  Calls Tryz.prog 90 #[.pointer (some ⟨gd, 0, none⟩)] w fun e w' => ∃ gw, e = .returned (.tuple #[.pointer (some ⟨gw, 0, none⟩), .int .i64 0]) /\ aG w' gw 162 (eS gd q true 0) /\ w.heap.size <= gw /\ Below w.heap.size w w' := by
 have HR : Hid (Calls Tryz.prog 135 #[.pointer (some ⟨gd, 0, none⟩), .int .i64 0] w fun e w' => e = .returned (.tuple #[.string b, .int .i64 0]) /\ Below w.heap.size w w') := Lib.hid (by
  refine (tN 0 hd hz).mono ?_
  rintro e w' ⟨rfl, hb2⟩
  refine ⟨?_, hb2⟩
  rw [hb]
  unfold DS.errR
  rw [if_pos hon, if_pos ⟨by omega, by omega⟩])
 have HRD := Lib.hid hRD
 have HDN : Hid (∀ W A c, Calls Tryz.prog 137 #[.agg #[.int .i64 q, .bool false, .slice A 0 c]] W fun e w' => e = .returned (.agg #[.int .i64 q, .bool false, .slice none 0 0]) /\ Below W.heap.size W w') := Lib.hid (fun W A c => Bq (HD.mk q false []) A c W)
 clear hd hz hon h1 hb hRD
 go_enter Tryz.func90, Tryz.ntmps90
 go_wp2_with fail
 refine HR.out.mono ?_
 rintro e w1 ⟨rfl, hb1⟩
 have HB1 := Lib.hid hb1
 clear hb1
 go_wp2_with fail
 refine (HRD.out _).mono ?_
 rintro e w2 ⟨A, c, rfl, hb2⟩
 have HB2 := Lib.hid (HB1.out.trans (hb2.mono HB1.out.size))
 clear hb2
 go_upto_region 9 with fail
 obtain ⟨w3, hw3⟩ : ∃ w3, w3 = w2.alloc (.cells #[.int .i64 q, .bool false, .slice A 0 c] 160) := ⟨_, rfl⟩
 obtain ⟨g6, hg6⟩ : ∃ g6, g6 = w2.heap.size := ⟨_, rfl⟩
 rw [<- hw3, <- hg6]
 have HH3 : Hid (aG w3 g6 160 #[.int .i64 q, .bool false, .slice A 0 c]) := Lib.hid (by rw [hw3, hg6]; exact aG.new w2 _ _)
 have HB3 : Hid (Below w.heap.size w w3) := Lib.hid (by rw [hw3]; exact HB2.out.alloc HB2.out.size _)
 have c0 := HH3.out.cell 0
 have c1 := HH3.out.cell 1
 have c2 := HH3.out.cell 2
 simp at c0 c1 c2
 clear hw3 hg6
 go_wp2_with fail
 refine (HDN.out _ A c).mono ?_
 rintro e w4 ⟨rfl, hb4⟩
 have HH4 := Lib.hid (HH3.out.below hb4 HH3.out.lt)
 have HB4 := Lib.hid (HB3.out.trans (hb4.mono HB3.out.size))
 clear hb4 c0 c1 c2
 go_upto_region 10 with fail
 obtain ⟨w5, hw5⟩ : ∃ w5, w5 = w4.alloc (.cells (eS gd q true 0) 162) := ⟨_, rfl⟩
 obtain ⟨gw, hgw⟩ : ∃ gw, gw = w4.heap.size := ⟨_, rfl⟩
 unfold eS at hw5
 rw [<- hw5, <- hgw]
 have HH5 : Hid (aG w5 gw 162 (eS gd q true 0)) := Lib.hid (by rw [hw5, hgw]; exact aG.new w4 _ _)
 have HB5 : Hid (Below w.heap.size w w5) := Lib.hid (by rw [hw5]; exact HB4.out.alloc HB4.out.size _)
 have HG5 : Hid (w.heap.size <= gw) := Lib.hid (by rw [hgw]; exact HB4.out.size)
 have c1 : w5.cell? ⟨g6, 1, none⟩ = some (.bool false) := by
  have := (HH4.out.below ((Below.refl _ _).alloc (Nat.le_refl _) (.cells (eS gd q true 0) 162)) HH4.out.lt).cell 1
  unfold eS at this
  rw [<- hw5] at this
  exact this
 clear hw5 hgw
 go_wp2_with fail
 go_ret2
 exact ⟨gw, rfl, HH5.out, HG5.out, HB5.out⟩
end
theorem Pr (W : World) : Calls Tryz.prog 136 #[.string (aY 256)] W fun e w' => ∃ A c, e = .returned (.tuple #[.agg #[.int .i64 0, .bool false, .slice A 0 c], .int .i64 0]) /\ Below W.heap.size W w' := by
 have hH : gK (aY 256).data.toList = (HD.mk 0 false [], 0) := by
  have e : (aY 256).data.toList = List.replicate 256 0 := mZ 256
  rw [e]
  unfold gK
  rw [if_neg (fun h => h List.length_replicate), if_pos (List.all_eq_true.2 (fun x hx => by rw [List.eq_of_mem_replicate hx]; rfl))]
  rfl
 refine (Bu (aY 256) W).mono ?_
 rw [hH]
 rintro e w' ⟨A, c, rfl, -, -, h3⟩
 exact ⟨A, c, rfl, h3⟩
theorem Ps {q : Int} (h0 : 0 <= q) (h1 : q <= 1099511627776) (W : World) : Calls Tryz.prog 136 #[.string (bs (HD.mk q false []).text)] W fun e w' => ∃ A c, e = .returned (.tuple #[.agg #[.int .i64 q, .bool false, .slice A 0 c], .int .i64 0]) /\ Below W.heap.size W w' := by
 refine (Jv (HD.mk q false []) (by unfold HD.validB; simp; exact ⟨h0, h1⟩) W).mono ?_
 rintro e w' ⟨A, c, rfl, -, h3⟩
 exact ⟨A, c, rfl, h3⟩
def kZ (O : List Nat) (gd gw : Nat) (S : DS) (q : Int) (w w' : World) : Prop :=
 ∃ O', bE w' O' gd S /\ (∀ b ∈ O', b ∈ O \/ w.heap.size <= b) /\ aR O w w' /\ aG w' gw 162 (eS gd q true 0) /\ w.heap.size <= gw /\ gw ∉ O'
theorem kZ.of_plain {O : List Nat} {gd gw : Nat} {S : DS} {q : Int} {w w' : World} (hd : bE w O gd S) (h1 : aG w' gw 162 (eS gd q true 0)) (h2 : w.heap.size <= gw) (h3 : Below w.heap.size w w') : kZ O gd gw S q w w' :=
 ⟨O, hd.below h3, fun b hb => .inl hb, aR.of_below h3, h1, h2, fun hm => by have := hd.lt hm; omega⟩
def pD (n : Nat) : List Int := (List.range n).map fun (k : Nat) => (k : Int)
theorem Ka (n : Nat) : (pD n).length = n := by unfold pD; simp
theorem Kc {n : Nat} {t : Int} : t ∈ pD n ↔ 0 <= t /\ t < (n : Int) := by
 unfold pD
 rw [List.mem_map]
 constructor
 ·rintro ⟨k, hk, rfl⟩
  have := List.mem_range.1 hk
  omega
 ·intro h
  exact ⟨t.toNat, List.mem_range.2 (by omega), by omega⟩
theorem Aa (n : Nat) : (pD n).Pairwise (· < ·) := by
 unfold pD
 rw [List.pairwise_map]
 exact List.pairwise_lt_range.imp (fun h => by omega)
theorem Gl {m : Int} : ∀ {l : List eA}, (∀ x ∈ l, 0 <= x.1 /\ x.1 < m /\ x.2.size = 256) -> lE m l = 0
 | [], _ => rfl
 | y :: r, h => by
   obtain ⟨h1, h2, h3⟩ := h y (by simp)
   unfold lE
   rw [if_pos ⟨h1, h2⟩, if_pos h3]
   exact Gl (fun x hx => h x (by simp [hx]))
theorem Kd {N : Nat} (G : List (List eA)) : ∀ s : List ByteArray, (∀ g ∈ G, Zv N g) -> (∀ x ∈ s, x.size <= 256) -> ∀ x ∈ G.foldl lG s, x.size <= 256 := by
 induction G with
 | nil => intro s _ h; exact h
 | cons g r ih =>
   intro s hf hs
   exact ih _ (fun g' hg' => hf g' (by simp [hg'])) (Ke g 256 s (fun x hx => by have := (hf g (by simp) x hx).2.2; omega) hs)
def sR (l : List eA) (o : Option ByteArray) (t : Int) : Option ByteArray := l.foldl (fun o x => if x.1 = t then some x.2 else o) o
theorem iU (x : eA) (r : List eA) (o : Option ByteArray) (t : Int) : sR (x :: r) o t = sR r (if x.1 = t then some x.2 else o) t := rfl
theorem Gk (l : List eA) (t : Int) : ∀ o, t ∉ l.map Prod.fst -> sR l o t = o := by
 induction l with
 | nil => intro o _; rfl
 | cons x r ih =>
   intro o h
   rw [iU, if_neg (fun e => h (by simp [e])), ih _ (fun hm => h (by simp [hm]))]
theorem Pk (l : List eA) (t : Int) : ∀ o, t ∈ l.map Prod.fst -> sR l o t = some (gR l t) := by
 have key : ∀ (l : List eA) (o : Option ByteArray), t ∈ l.map Prod.fst -> sR l o t = sR l none t /\ ∃ v, sR l none t = some v := by
  intro l
  induction l with
  | nil => intro o h; cases h
  | cons x r ih =>
    intro o h
    by_cases hr : t ∈ r.map Prod.fst
    ·rw [iU, iU]
     obtain ⟨h1, v, h2⟩ := ih (if x.1 = t then some x.2 else o) hr
     obtain ⟨h3, _⟩ := ih (if x.1 = t then some x.2 else none) hr
     exact ⟨h1.trans h3.symm, v, h3.trans h2⟩
    ·have hx : x.1 = t := by
      rcases List.mem_cons.1 h with h | h
      ·exact h.symm
      ·exact absurd h hr
     rw [iU, iU, if_pos hx, if_pos hx]
     exact ⟨rfl, x.2, Gk r t _ hr⟩
 intro o h
 obtain ⟨h1, v, h2⟩ := key l o h
 rw [h1, h2]
 have : gR l t = (sR l none t).getD .empty := rfl
 rw [this, h2]
 rfl
theorem Ul (l : List eA) (t : Nat) : ∀ h : List ByteArray, t < h.length -> (∀ x ∈ l, 0 <= x.1) -> (lG h l)[t]? = sR l h[t]? (t : Int) := by
 induction l with
 | nil => intro h _ _; rfl
 | cons x r ih =>
   intro h ht h0
   rw [kE, ih _ (by simpa using ht) (fun y hy => h0 y (by simp [hy])), iU]
   have hx := h0 x (by simp)
   by_cases e : x.1 = (t : Int)
   ·rw [if_pos e]
    have : x.1.toNat = t := by omega
    rw [this, List.getElem?_set_self ht]
   ·rw [if_neg e, List.getElem?_set_ne (by omega)]
def Lz (q : Int) : ByteArray := if q = 0 then aY 256 else Yr q
structure tT (N : Nat) (q : Int) (h Z : List ByteArray) : Prop where
 len : Z.length = N
 dim : 140 <= N /\ N <= 400
 head : Z[0]? = some (Lz q)
 seq : 0 <= q /\ q < 1000000
 hlen : h.length = N - 111
 home : ∀ t : Nat, t < N - 111 -> Z[111 + t]? = h[t]?
 small : ∀ x ∈ Z, x.size <= 256
theorem Jz {q : Int} (h0 : 0 <= q) (h1 : q < 1000000) (W : World) : Calls Tryz.prog 136 #[.string (Lz q)] W fun e w' => ∃ A c, e = .returned (.tuple #[.agg #[.int .i64 q, .bool false, .slice A 0 c], .int .i64 0]) /\ Below W.heap.size W w' := by
 unfold Lz
 by_cases hq : q = 0
 ·subst hq
  rw [if_pos rfl]
  exact Pr W
 ·rw [if_neg hq]
  exact Ps h0 (by omega) W
section
variable {N : Nat} {q : Int} {h s : List ByteArray} {l : List eA} {T : List Int}
theorem Pl (hs : tT N q h s) (hok : dI N q l T) {t : Nat} (ht : t < N - 111) : (lG h l)[t]? = if (t : Int) ∈ T then some (gR l (t : Int)) else h[t]? := by
 have h0 : ∀ x ∈ l, 0 <= x.1 := fun x hx => (pV hok.ok x hx).1
 rw [Ul l t h (by rw [hs.hlen]; exact ht) h0]
 by_cases hm : (t : Int) ∈ T
 ·rw [if_pos hm, Pk l _ _ ((hok.mem _).1 hm)]
 ·rw [if_neg hm, Gk l _ _ (fun hh => hm ((hok.mem _).2 hh))]
theorem Pm (hs : tT N q h s) (hok : dI N q l T) (hq : q + 1 < 1000000) : tT N (q + 1) (lG h l) (mV s q l T) := by
 have hd := hs.dim
 refine ⟨by rw [dI.done_len]; exact hs.len, hd, ?_, by have := hs.seq; omega, by rw [jI]; exact hs.hlen, fun t ht => ?_, Kd _ _ hok.fits hs.small⟩
 ·rw [hok.done_head s hs.len]
  unfold Lz
  rw [if_neg (by have := hs.seq; omega)]
 ·have := hok.done_at s hs.len (t := (t : Int)) (by omega) (by omega)
  rw [show (111 + (t : Int)).toNat = 111 + t by omega] at this
  rw [this, Pl hs hok ht, hs.home t ht]
end
end Go.Proofs.YtingkbeifohihaaGreatDoor
