/-
  Package chain's walk. No statement is proved here.
-/
import Derived.Test.YtingkbeifohihaaGreatDoorLinkPut
import Derived.Test.YtingkbeifohihaaGreatDoorOneMix
import Derived.Test.YtingkbeifohihaaGreatDoorLinkSmall
namespace Go.Proofs.YtingkbeifohihaaGreatDoor
open Go.RowKit
structure Sk (N : Nat) (gen tag : Int) (b : ByteArray) (j : Nat) (K : KD) (nx : Int) (K' : KD) (t : Int) (qs : List Int) : Prop where
 len : qs.length = j
 head : t = qs.getD 0 nx
 laid : ∀ i, i < j -> K'.F (qs.getD i 0) = bs (Sm gen tag b i (qs.getD (i + 1) nx)).text
 fresh : ∀ p ∈ qs, p ∉ K.H /\ 0 <= p /\ p < ((N - 111 : Nat) : Int)
 once : qs.Nodup
 mem : ∀ z, z ∈ K'.H ↔ z ∈ K.H \/ z ∈ qs
 rest : ∀ z, z ∉ qs -> K'.F z = K.F z
 cnt : K'.H.length = K.H.length + j
 same : K' = nW K K'.F K'.H
theorem nG {l : List Int} {x d : Int} {i : Nat} (h : i < l.length) : (l ++ [x]).getD i d = l.getD i d := by
 rw [List.getD_eq_getElem?_getD, List.getD_eq_getElem?_getD, List.getElem?_append_left h]
theorem nH {l : List Int} {x d : Int} {i : Nat} (h : i = l.length) : (l ++ [x]).getD i d = x := by
 rw [List.getD_eq_getElem?_getD, List.getElem?_append_right (by omega), h, Nat.sub_self]
 rfl
theorem Cx {l : List Int} {d : Int} {i : Nat} (h : l.length <= i) : l.getD i d = d := by
 rw [List.getD_eq_getElem?_getD, List.getElem?_eq_none h]
 rfl
theorem Fh {l : List Int} {d d' : Int} {i : Nat} (h : i < l.length) : l.getD i d = l.getD i d' := by
 rw [List.getD_eq_getElem?_getD, List.getD_eq_getElem?_getD, List.getElem?_eq_getElem h]
 rfl
section
variable {N : Nat} {gen tag : Int} {b : ByteArray} {h : List ByteArray} {c : Nat}
theorem Sl : ∀ (j : Nat) (K : KD) (nx : Int) (K' : KD) (t : Int), oZ (N - 111) K.H -> mQ N gen tag b j K nx = some (K', t) -> ∃ qs, Sk N gen tag b j K nx K' t qs
 | 0, K, nx, K', t, _, hp => by
   unfold mQ at hp
   injection hp with hp
   injection hp with h1 h2
   subst h1 h2
   exact ⟨[], ⟨rfl, rfl, (fun i hi => by omega), (fun p hp => by cases hp), List.nodup_nil, (fun z => by simp), (fun z _ => rfl), rfl, rfl⟩⟩
 | j + 1, K, nx, K', t, ho, hp => by
   unfold mQ at hp
   have hL := pI ho
   obtain ⟨k, hk⟩ : ∃ k, k = pH K.H := ⟨_, rfl⟩
   rw [<- hk] at hp hL
   split at hp
   ·rename_i hlt
    have hkH : (k : Int) ∉ K.H := hL.not
    have ho1 : oZ (N - 111) (nJ K k (bs (Sm gen tag b j nx).text)).H := ho.put (by omega) (by omega)
    obtain ⟨qs, q⟩ := Sl j (nJ K k (bs (Sm gen tag b j nx).text)) k K' t ho1 hp
    have hm1 : ∀ z, z ∈ (nJ K k (bs (Sm gen tag b j nx).text)).H ↔ z = (k : Int) \/ z ∈ K.H := fun z => jH _ _ _
    have hkq : (k : Int) ∉ qs := fun hm => (q.fresh _ hm).1 ((hm1 _).2 (.inl rfl))
    refine ⟨qs ++ [(k : Int)], ?_, ?_, ?_, ?_, ?_, ?_, ?_, ?_, ?_⟩
    ·rw [List.length_append, q.len]
     rfl
    ·rw [q.head]
     rcases Nat.eq_zero_or_pos qs.length with h0 | h0
     ·rw [Cx (by omega), nH (by omega)]
     ·rw [nG h0, Fh h0]
    ·intro i hi
     rcases Nat.lt_or_ge i j with h' | h'
     ·have hil : i < qs.length := by rw [q.len]; exact h'
      rw [nG hil, q.laid i h']
      congr 3
      rcases Nat.lt_or_ge (i + 1) qs.length with h2 | h2
      ·rw [nG h2, Fh h2]
      ·rw [Cx h2, nH (by omega)]
     ·obtain rfl : i = j := by omega
      rw [nH q.len.symm, Cx (by rw [List.length_append, q.len]; simp), q.rest _ hkq]
      exact iP _ _ _
    ·intro p hp
     rcases List.mem_append.1 hp with hp | hp
     ·obtain ⟨a1, a2⟩ := q.fresh p hp
      exact ⟨fun hm => a1 ((hm1 _).2 (.inr hm)), a2⟩
     ·rw [List.mem_singleton.1 hp]
      exact ⟨hkH, by omega, by omega⟩
    ·rw [List.nodup_append]
     refine ⟨q.once, by simp, fun a ha b hb => ?_⟩
     rw [List.mem_singleton.1 hb]
     exact fun e => hkq (e ▸ ha)
    ·intro z
     rw [q.mem, hm1]
     simp only [List.mem_append, List.mem_cons, List.not_mem_nil, or_false]
     constructor
     ·rintro ((h | h) | h)
      ·exact .inr (.inr h)
      ·exact .inl h
      ·exact .inr (.inl h)
     ·rintro (h | h | h)
      ·exact .inl (.inr h)
      ·exact .inr h
      ·exact .inl (.inl h)
    ·intro z hz
     simp only [List.mem_append, List.mem_cons, List.not_mem_nil, or_false, not_or] at hz
     rw [q.rest z hz.1]
     exact iQ _ _ hz.2
    ·rw [q.cnt]
     show (mD (k : Int) K.H).length + j = _
     rw [pF _ _ hkH]
     omega
    ·exact q.same
   ·cases hp
theorem xQ : ∀ (j : Nat) (K : KD) (nx : Int), oZ (N - 111) K.H -> (mQ N gen tag b j K nx = none ↔ N - 111 < K.H.length + j)
 | 0, K, nx, ho => by
   have := ho.few
   unfold mQ
   constructor
   ·intro h; cases h
   ·intro h; omega
 | j + 1, K, nx, ho => by
   have hf := ho.few
   have hL := pI ho
   unfold mQ
   obtain ⟨k, hk⟩ : ∃ k, k = pH K.H := ⟨_, rfl⟩
   rw [<- hk] at hL ⊢
   rcases Nat.lt_or_ge K.H.length (N - 111) with h' | h'
   ·have hlt := Uw ho hL h'
    rw [if_pos hlt, xQ j _ _ (ho.put (by omega) (by omega))]
    have : (nJ K k (bs (Sm gen tag b j nx).text)).H.length = K.H.length + 1 := pF _ _ hL.not
    rw [this]
    omega
   ·have e := hL.one (Kk ho (by omega))
    rw [if_neg (by omega)]
    constructor
    ·intro _; omega
    ·intro _; rfl
theorem Bh {K K' : KD} {t : Int} (hN : N <= 400) (ho : oZ (N - 111) K.H) (h0 : (0 : Int) ∈ K.H) (h1 : (1 : Int) ∈ K.H) (hf : lR gen tag = true) (hb : b.size <= 9440) (hp : mQ N gen tag b (dP b.size) K 0 = some (K', t)) :
  ∃ ps, aZ K'.F gen tag 1 b ps /\ t = ps.getD 0 0 /\ Sk N gen tag b (dP b.size) K 0 K' t ps := by
 obtain ⟨ps, q⟩ := Sl _ _ _ _ _ ho hp
 refine ⟨ps, ⟨of_decide_eq_true hf, by omega, hb, q.len, fun p hp => ?_, fun i hi => ?_⟩, q.head, q⟩
 ·obtain ⟨a1, a2, a3⟩ := q.fresh p hp
  have : p ≠ 0 := fun e => a1 (e ▸ h0)
  have : p ≠ 1 := fun e => a1 (e ▸ h1)
  omega
 ·rw [q.laid i (by rw [<- q.len]; exact hi)]
  rfl
end
theorem dN {P : Program} {fn : Func} {R : Ending -> World -> Prop} {a : Act} {w : World} {q r : Tmp} {ty : TypeId} {ad : Addr} {v u : Value} (h : fn.results = #[.cell q ty, .tmp r]) (hp : a.tmps.getD q undef = .pointer (some ad))
  (hl : (loadVar ty ad).run P w = .ok v w) (hu : a.tmps.getD r undef = u) (hd : a.defers = []) (hR : R (.returned (.tuple #[v, u])) w) : bodyPost P fn R .ret a w := by
 refine bodyPost_ret (v := .tuple #[v, u]) ?_ hd hR
 simp only [results, h]
 have hp' : a.tmps[q]?.getD undef = .pointer (some ad) := by simpa using hp
 have hu' : a.tmps[r]?.getD undef = u := by simpa using hu
 simp [hp', hu', asAddr, hl]
set_option maxRecDepth 100000
set_option maxHeartbeats 8000000
theorem Vi (l : List UInt8) : (fJ l).1.length <= l.length := by
 unfold fJ
 split
 ·simp
 ·split
  ·simp only [List.length_take]; omega
  ·simp
theorem He (b : ByteArray) : ∀ i, (iO b i).b.size <= b.size := by
 have h0 : (iO b 0).b.size <= b.size := by
  show (bs (fJ b.data.toList).1).size <= _
  rw [dO]
  have := Vi b.data.toList
  rw [<- Lib.size_eq] at this
  exact this
 intro i
 induction i with
 | zero => exact h0
 | succ n ih =>
   refine Nat.le_trans ?_ ih
   show (Sp n (iO b n)).b.size <= _
   unfold Sp
   split <;> first | exact Rd.size_num _ _ | exact Rd.size_text _
theorem Hf (b : ByteArray) : (Qv b).data.size <= b.size := by
 show (iO b 6).text.1.size <= _
 refine Nat.le_trans ?_ (He b 6)
 exact Nat.le_trans ((Rd.size_take _ _).2) (Rd.size_num _ _)
theorem zK (b : ByteArray) : (bJ b).1.data.size <= b.size := by
 unfold bJ
 split
 ·exact Nat.zero_le _
 ·exact Hf b
theorem Kx (b : ByteArray) : 0 <= (bJ b).1.next /\ (bJ b).1.next <= 9223372036854775807 := by
 unfold bJ
 split
 ·exact ⟨Int.le_refl _, by decide⟩
 ·exact Rd.num_range _ _
theorem Ky (X : ByteArray) (w : World) (hs : X.size <= 100000) :
  Calls Tryz.prog 68 #[.string X] w fun e w' => e = .returned (.tuple #[(bJ X).1.val, .bool (bJ X).2]) /\ Below w.heap.size w w' := by
 have HOP : Hid (∀ W, Calls Tryz.prog 113 #[.string X] W fun e w' => e = .returned (lW X.data.toList) /\ Below W.heap.size W w') := Lib.hid (fun W => yQ X W (by omega))
 obtain ⟨BL, hBL⟩ : ∃ BL, BL = bs (fJ X.data.toList).1 := ⟨_, rfl⟩
 obtain ⟨eo, heo⟩ : ∃ eo, eo = (fJ X.data.toList).2 := ⟨_, rfl⟩
 have hov : lW X.data.toList = .tuple #[.string BL, .int .i64 eo] := by unfold lW; rw [<- heo, hBL]; rfl
 rw [hov] at HOP
 by_cases he : eo = 0
 rotate_left
 ·have hL : bJ X = (LK.zero, false) := by unfold bJ; rw [if_pos (by rw [<- heo]; exact he)]
  rw [hL]
  have z0 : (eo == 0) = false := by simpa using he
  clear hL hov hBL heo he
  show Calls Tryz.prog 68 #[.string X] w fun e w' => e = .returned (.tuple #[.agg #[.int .i64 0, .int .i64 0, .int .i64 0, .int .i64 0, .int .i64 0, .string .empty, .int .i64 0], .bool false]) /\ Below w.heap.size w w'
  go_enter Tryz.func68, Tryz.ntmps68
  go_wp2_with fail
  refine (HOP.out _).mono ?_
  rintro e w1 ⟨rfl, hb1⟩
  have HB0 : Hid (Below w.heap.size w w1) := Lib.hid (((Below.refl _ _).alloc (Nat.le_refl _) _).trans (hb1.mono (by simp)))
  have b1 : aG w1 w.heap.size 83 #[.int .i64 0, .int .i64 0, .int .i64 0, .int .i64 0, .int .i64 0, .string ⟨#[]⟩, .int .i64 0] := (aG.new w _ _).below hb1 (by simp)
  have c0 := b1.cell 0
  have c1 := b1.cell 1
  have c2 := b1.cell 2
  have c3 := b1.cell 3
  have c4 := b1.cell 4
  have c5 := b1.cell 5
  have c6 := b1.cell 6
  have f0 := b1.frozen 0
  have f1 := b1.frozen 1
  have f2 := b1.frozen 2
  have f3 := b1.frozen 3
  have f4 := b1.frozen 4
  have f5 := b1.frozen 5
  have f6 := b1.frozen 6
  simp at c0 c1 c2 c3 c4 c5 c6
  clear hb1
  go_wp2_with fail
  have b2 := ((((((b1.put 0 (.int .i64 0)).put 1 (.int .i64 0)).put 2 (.int .i64 0)).put 3 (.int .i64 0)).put 4 (.int .i64 0)).put 5 (.string ⟨#[]⟩)).put 6 (.int .i64 0)
  refine dN rfl rfl (aT (off := 0) b2 (fun j v h => by rw [Nat.zero_add]; exact h) (fun w => by kernel_rfl) (fun w => by kernel_rfl)) rfl rfl ?_
  exact ⟨rfl, ((((((HB0.out.setCell (Nat.le_refl _) _).setCell (Nat.le_refl _) _).setCell (Nat.le_refl _) _).setCell (Nat.le_refl _) _).setCell (Nat.le_refl _) _).setCell (Nat.le_refl _) _).setCell (Nat.le_refl _) _⟩
 subst he
 have hL : bJ X = (Qv X, Yn X) := by unfold bJ; rw [if_neg (by rw [<- heo]; simp)]
 rw [hL]
 have hsz := He X
 have R0 : iO X 0 = ⟨BL, 0⟩ := by rw [hBL]; rfl
 have HON : Hid (∀ W, Calls Tryz.prog 114 #[.string BL] W fun e w' => ∃ g, e = .returned (.pointer (some ⟨g, 0, none⟩)) /\ W.heap.size <= g /\ bP w' g (iO X 0) /\ Below W.heap.size W w') := Lib.hid (fun W => by
  rw [R0]
  exact Ck BL W (by have := hsz 0; rw [R0] at this; simp only at this; omega))
 obtain ⟨kind, hkind⟩ : ∃ z, z = ((iO X 0).num 1).1 := ⟨_, rfl⟩
 obtain ⟨gen, hgen⟩ : ∃ z, z = ((iO X 1).num 1).1 := ⟨_, rfl⟩
 obtain ⟨tag, htag⟩ : ∃ z, z = ((iO X 2).num 1).1 := ⟨_, rfl⟩
 obtain ⟨num, hnum⟩ : ∃ z, z = ((iO X 3).num 1).1 := ⟨_, rfl⟩
 obtain ⟨refs, hrefs⟩ : ∃ z, z = ((iO X 4).num 2).1 := ⟨_, rfl⟩
 obtain ⟨next, hnext⟩ : ∃ z, z = ((iO X 5).num 2).1 := ⟨_, rfl⟩
 obtain ⟨B, hB⟩ : ∃ z, z = (iO X 6).text.1 := ⟨_, rfl⟩
 obtain ⟨fi, hfi⟩ : ∃ z, z = (iO X 7).fin.1 := ⟨_, rfl⟩
 have H0 : Hid (∀ (W : World) (g : Nat), bP W g (iO X 0) -> Calls Tryz.prog 115 #[.pointer (some ⟨g, 0, none⟩)] W fun e w' => e = .returned (.int .i64 kind) /\ bP w' g (iO X 1) /\ W.grownBy w' (some g)) := Lib.hid (fun W g hi => by rw [hkind]; exact lM g _ W hi (by have := hsz 0; omega))
 have H1 : Hid (∀ (W : World) (g : Nat), bP W g (iO X 1) -> Calls Tryz.prog 115 #[.pointer (some ⟨g, 0, none⟩)] W fun e w' => e = .returned (.int .i64 gen) /\ bP w' g (iO X 2) /\ W.grownBy w' (some g)) := Lib.hid (fun W g hi => by rw [hgen]; exact lM g _ W hi (by have := hsz 1; omega))
 have H2 : Hid (∀ (W : World) (g : Nat), bP W g (iO X 2) -> Calls Tryz.prog 115 #[.pointer (some ⟨g, 0, none⟩)] W fun e w' => e = .returned (.int .i64 tag) /\ bP w' g (iO X 3) /\ W.grownBy w' (some g)) := Lib.hid (fun W g hi => by rw [htag]; exact lM g _ W hi (by have := hsz 2; omega))
 have H3 : Hid (∀ (W : World) (g : Nat), bP W g (iO X 3) -> Calls Tryz.prog 115 #[.pointer (some ⟨g, 0, none⟩)] W fun e w' => e = .returned (.int .i64 num) /\ bP w' g (iO X 4) /\ W.grownBy w' (some g)) := Lib.hid (fun W g hi => by rw [hnum]; exact lM g _ W hi (by have := hsz 3; omega))
 have H4 : Hid (∀ (W : World) (g : Nat), bP W g (iO X 4) -> Calls Tryz.prog 116 #[.pointer (some ⟨g, 0, none⟩)] W fun e w' => e = .returned (.int .i64 refs) /\ bP w' g (iO X 5) /\ W.grownBy w' (some g)) := Lib.hid (fun W g hi => by rw [hrefs]; exact mY g _ W hi (by have := hsz 4; omega))
 have H5 : Hid (∀ (W : World) (g : Nat), bP W g (iO X 5) -> Calls Tryz.prog 116 #[.pointer (some ⟨g, 0, none⟩)] W fun e w' => e = .returned (.int .i64 next) /\ bP w' g (iO X 6) /\ W.grownBy w' (some g)) := Lib.hid (fun W g hi => by rw [hnext]; exact mY g _ W hi (by have := hsz 5; omega))
 have H6 : Hid (∀ (W : World) (g : Nat), bP W g (iO X 6) -> Calls Tryz.prog 117 #[.pointer (some ⟨g, 0, none⟩)] W fun e w' => e = .returned (.string B) /\ bP w' g (iO X 7) /\ W.grownBy w' (some g)) := Lib.hid (fun W g hi => by rw [hB]; exact Vw g _ W hi (by have := hsz 6; omega))
 have H7 : Hid (∀ (W : World) (g : Nat), bP W g (iO X 7) -> Calls Tryz.prog 118 #[.pointer (some ⟨g, 0, none⟩)] W fun e w' => e = .returned (.int .i64 fi) /\ W.grownBy w' (some g)) := Lib.hid (fun W g hi => by rw [hfi]; exact (Yx g _ W hi).mono (fun e w' h => ⟨h.1, h.2.2⟩))
 obtain ⟨sz, hsz'⟩ : ∃ sz, sz = B.size := ⟨_, rfl⟩
 have hsB : (B.size : Int) = (sz : Int) := by rw [hsz']
 have hszI : (sz : Int) <= 100000 := by have h1 := Hf X; have h2 : (Qv X).data = B := hB.symm; rw [h2] at h1; omega
 obtain ⟨r, hr⟩ : ∃ r, r = Yn X := ⟨_, rfl⟩
 have HR : Hid (r = (decide (fi = 0) && decide (kind = 2) && lR gen tag && decide (refs <= 60000) && decide (sz <= 236))) := Lib.hid (by
  rw [hr, hfi, hkind, hgen, htag, hrefs, hsz', hB]
  rfl)
 have hV : (Qv X).val = .agg #[.int .i64 gen, .int .i64 tag, .int .i64 num, .int .i64 refs, .int .i64 next, .string B, .int .i64 0] := by rw [hgen, htag, hnum, hrefs, hnext, hB]; rfl
 show Calls Tryz.prog 68 #[.string X] w fun e w' => e = .returned (.tuple #[(Qv X).val, .bool (Yn X)]) /\ Below w.heap.size w w'
 rw [hV, <- hr]
 have HFT := Lib.hid (zH gen tag)
 clear hL hov hBL heo hsz R0 hkind hgen htag hnum hrefs hnext hB hfi hsz' hr hV hs
 go_enter Tryz.func68, Tryz.ntmps68
 go_wp2_with fail
 refine (HOP.out _).mono ?_
 rintro e w1 ⟨rfl, hb1⟩
 have HB1 : Hid (Below w.heap.size w w1) := Lib.hid (((Below.refl _ _).alloc (Nat.le_refl _) _).trans (hb1.mono (by simp)))
 have HK1 : Hid (aG w1 w.heap.size 83 #[.int .i64 0, .int .i64 0, .int .i64 0, .int .i64 0, .int .i64 0, .string ⟨#[]⟩, .int .i64 0]) := Lib.hid ((aG.new w _ _).below hb1 (by simp))
 have HS1 : Hid (w.heap.size < w1.heap.size) := Lib.hid HK1.out.lt
 clear hb1
 go_wp2_with fail
 refine (HON.out _).mono ?_
 rintro e v0 ⟨g, rfl, hgl, hi0, hb0⟩
 have HI0 := Lib.hid hi0
 have HG : Hid (w.heap.size < g) := Lib.hid (Nat.lt_of_lt_of_le HS1.out hgl)
 have HB0 : Hid (Below w.heap.size w v0) := Lib.hid (HB1.out.trans (hb0.mono HB1.out.size))
 have HK0 := Lib.hid (HK1.out.below hb0 HK1.out.lt)
 clear hgl hi0 hb0 HB1 HK1 HS1 HOP HON
 go_wp2_with fail
 refine (H0.out _ _ HI0.out).mono ?_
 rintro e v1 ⟨rfl, hi1, hg1⟩
 have HI1 := Lib.hid hi1
 have HB1 : Hid (Below w.heap.size w v1) := Lib.hid (aH HB0.out hg1 (Nat.le_of_lt HG.out))
 have HK1 := Lib.hid (HK0.out.grown hg1 (by intro e; injection e with e; have := HG.out; omega))
 clear hi1 hg1 HI0 HB0 HK0 H0
 go_wp2_with fail
 refine (H1.out _ _ HI1.out).mono ?_
 rintro e v2 ⟨rfl, hi2, hg2⟩
 have HI2 := Lib.hid hi2
 have HB2 : Hid (Below w.heap.size w v2) := Lib.hid (aH HB1.out hg2 (Nat.le_of_lt HG.out))
 have HK2 := Lib.hid (HK1.out.grown hg2 (by intro e; injection e with e; have := HG.out; omega))
 clear hi2 hg2 HI1 HB1 HK1 H1
 go_wp2_with fail
 refine (H2.out _ _ HI2.out).mono ?_
 rintro e v3 ⟨rfl, hi3, hg3⟩
 have HI3 := Lib.hid hi3
 have HB3 : Hid (Below w.heap.size w v3) := Lib.hid (aH HB2.out hg3 (Nat.le_of_lt HG.out))
 have HK3 := Lib.hid (HK2.out.grown hg3 (by intro e; injection e with e; have := HG.out; omega))
 clear hi3 hg3 HI2 HB2 HK2 H2
 go_wp2_with fail
 refine (H3.out _ _ HI3.out).mono ?_
 rintro e v4 ⟨rfl, hi4, hg4⟩
 have HI4 := Lib.hid hi4
 have HB4 : Hid (Below w.heap.size w v4) := Lib.hid (aH HB3.out hg4 (Nat.le_of_lt HG.out))
 have HK4 := Lib.hid (HK3.out.grown hg4 (by intro e; injection e with e; have := HG.out; omega))
 clear hi4 hg4 HI3 HB3 HK3 H3
 go_wp2_with fail
 refine (H4.out _ _ HI4.out).mono ?_
 rintro e v5 ⟨rfl, hi5, hg5⟩
 have HI5 := Lib.hid hi5
 have HB5 : Hid (Below w.heap.size w v5) := Lib.hid (aH HB4.out hg5 (Nat.le_of_lt HG.out))
 have HK5 := Lib.hid (HK4.out.grown hg5 (by intro e; injection e with e; have := HG.out; omega))
 clear hi5 hg5 HI4 HB4 HK4 H4
 go_wp2_with fail
 refine (H5.out _ _ HI5.out).mono ?_
 rintro e v6 ⟨rfl, hi6, hg6⟩
 have HI6 := Lib.hid hi6
 have HB6 : Hid (Below w.heap.size w v6) := Lib.hid (aH HB5.out hg6 (Nat.le_of_lt HG.out))
 have HK6 := Lib.hid (HK5.out.grown hg6 (by intro e; injection e with e; have := HG.out; omega))
 clear hi6 hg6 HI5 HB5 HK5 H5
 go_wp2_with fail
 refine (H6.out _ _ HI6.out).mono ?_
 rintro e v7 ⟨rfl, hi7, hg7⟩
 have HI7 := Lib.hid hi7
 have HB7 : Hid (Below w.heap.size w v7) := Lib.hid (aH HB6.out hg7 (Nat.le_of_lt HG.out))
 have HK7 := Lib.hid (HK6.out.grown hg7 (by intro e; injection e with e; have := HG.out; omega))
 clear hi7 hg7 HI6 HB6 HK6 H6
 obtain ⟨g8, hg8⟩ : ∃ g8, g8 = v7.heap.size := ⟨_, rfl⟩
 have HGL : Hid (g < v7.heap.size) := Lib.hid HI7.out.lt
 have HI8 : Hid (bP (v7.alloc (.cells #[.int .i64 gen, .int .i64 tag, .int .i64 num, .int .i64 refs, .int .i64 next, .string B, .int .i64 0] 83)) g (iO X 7)) := Lib.hid (HI7.out.below ((Below.refl _ _).alloc (Nat.le_refl _) _) HI7.out.lt)
 have HB8 : Hid (Below w.heap.size w (v7.alloc (.cells #[.int .i64 gen, .int .i64 tag, .int .i64 num, .int .i64 refs, .int .i64 next, .string B, .int .i64 0] 83))) := Lib.hid (HB7.out.alloc HB7.out.size _)
 have HK8 : Hid (aG (v7.alloc (.cells #[.int .i64 gen, .int .i64 tag, .int .i64 num, .int .i64 refs, .int .i64 next, .string B, .int .i64 0] 83)) w.heap.size 83 #[.int .i64 0, .int .i64 0, .int .i64 0, .int .i64 0, .int .i64 0, .string ⟨#[]⟩, .int .i64 0]) := Lib.hid (HK7.out.below ((Below.refl _ _).alloc (Nat.le_refl _) _) HK7.out.lt)
 have HL8 : Hid (aG (v7.alloc (.cells #[.int .i64 gen, .int .i64 tag, .int .i64 num, .int .i64 refs, .int .i64 next, .string B, .int .i64 0] 83)) v7.heap.size 83 #[.int .i64 gen, .int .i64 tag, .int .i64 num, .int .i64 refs, .int .i64 next, .string B, .int .i64 0]) := Lib.hid (aG.new _ _ _)
 have HGE := Lib.hid hg8
 clear hg8 HI7 HB7 HK7
 go_wp2_with fail
 refine (H7.out _ _ HI8.out).mono ?_
 rintro e w9 ⟨rfl, hg9⟩
 have HB9 : Hid (Below w.heap.size w w9) := Lib.hid (aH HB8.out hg9 (Nat.le_of_lt HG.out))
 have HK9 := Lib.hid (HK8.out.grown hg9 (by intro e; injection e with e; have := HG.out; omega))
 have HL9 : Hid (aG w9 g8 83 #[.int .i64 gen, .int .i64 tag, .int .i64 num, .int .i64 refs, .int .i64 next, .string B, .int .i64 0]) := Lib.hid (by rw [HGE.out]; exact HL8.out.grown hg9 (by intro e; injection e with e; have := HGL.out; omega))
 rw [<- HGE.out]
 clear hg9 HI8 HB8 HK8 HL8 H7 HG HGL HGE
 have c0 := HL9.out.cell 0
 have c1 := HL9.out.cell 1
 have c2 := HL9.out.cell 2
 have c3 := HL9.out.cell 3
 have c4 := HL9.out.cell 4
 have c5 := HL9.out.cell 5
 have c6 := HL9.out.cell 6
 simp at c0 c1 c2 c3 c4 c5 c6
 have d0 := HK9.out.cell 0
 have d1 := HK9.out.cell 1
 have d2 := HK9.out.cell 2
 have d3 := HK9.out.cell 3
 have d4 := HK9.out.cell 4
 have d5 := HK9.out.cell 5
 have d6 := HK9.out.cell 6
 simp at d0 d1 d2 d3 d4 d5 d6
 have f0 := HK9.out.frozen 0
 have f1 := HK9.out.frozen 1
 have f2 := HK9.out.frozen 2
 have f3 := HK9.out.frozen 3
 have f4 := HK9.out.frozen 4
 have f5 := HK9.out.frozen 5
 have f6 := HK9.out.frozen 6
 by_cases a0 : fi = 0
 rotate_left
 ·obtain rfl : r = false := by rw [HR.out, decide_eq_false a0]; rfl
  have z0 : (fi == 0) = false := by simpa using a0
  clear a0
  go_wp2_with fail
  have b2 := ((((((HK9.out.put 0 (.int .i64 gen)).put 1 (.int .i64 tag)).put 2 (.int .i64 num)).put 3 (.int .i64 refs)).put 4 (.int .i64 next)).put 5 (.string B)).put 6 (.int .i64 0)
  refine dN rfl rfl (aT (off := 0) b2 (fun j v h => by rw [Nat.zero_add]; exact h) (fun w => by kernel_rfl) (fun w => by kernel_rfl)) rfl rfl ?_
  exact ⟨rfl, ((((((HB9.out.setCell (Nat.le_refl _) _).setCell (Nat.le_refl _) _).setCell (Nat.le_refl _) _).setCell (Nat.le_refl _) _).setCell (Nat.le_refl _) _).setCell (Nat.le_refl _) _).setCell (Nat.le_refl _) _⟩
 subst a0
 by_cases a1 : kind = 2
 rotate_left
 ·obtain rfl : r = false := by rw [HR.out, decide_eq_false a1]; rfl
  have z1 : (kind == 2) = false := by simpa using a1
  clear a1
  go_wp2_with fail
  have b2 := ((((((HK9.out.put 0 (.int .i64 gen)).put 1 (.int .i64 tag)).put 2 (.int .i64 num)).put 3 (.int .i64 refs)).put 4 (.int .i64 next)).put 5 (.string B)).put 6 (.int .i64 0)
  refine dN rfl rfl (aT (off := 0) b2 (fun j v h => by rw [Nat.zero_add]; exact h) (fun w => by kernel_rfl) (fun w => by kernel_rfl)) rfl rfl ?_
  exact ⟨rfl, ((((((HB9.out.setCell (Nat.le_refl _) _).setCell (Nat.le_refl _) _).setCell (Nat.le_refl _) _).setCell (Nat.le_refl _) _).setCell (Nat.le_refl _) _).setCell (Nat.le_refl _) _).setCell (Nat.le_refl _) _⟩
 subst a1
 obtain ⟨ft, hft⟩ : ∃ ft, ft = lR gen tag := ⟨_, rfl⟩
 rw [<- hft] at HR HFT
 have HFF := Lib.hid hft
 clear hft
 cases ft with
 | false =>
   obtain rfl : r = false := by rw [HR.out]; rfl
   go_wp2_with (go_at_call 44; refine (HFT.out _).mono ?_; rintro e w10 ⟨rfl, rfl⟩)
   have b2 := ((((((HK9.out.put 0 (.int .i64 gen)).put 1 (.int .i64 tag)).put 2 (.int .i64 num)).put 3 (.int .i64 refs)).put 4 (.int .i64 next)).put 5 (.string B)).put 6 (.int .i64 0)
   refine dN rfl rfl (aT (off := 0) b2 (fun j v h => by rw [Nat.zero_add]; exact h) (fun w => by kernel_rfl) (fun w => by kernel_rfl)) rfl rfl ?_
   exact ⟨rfl, ((((((HB9.out.setCell (Nat.le_refl _) _).setCell (Nat.le_refl _) _).setCell (Nat.le_refl _) _).setCell (Nat.le_refl _) _).setCell (Nat.le_refl _) _).setCell (Nat.le_refl _) _).setCell (Nat.le_refl _) _⟩
 | true =>
 by_cases a2 : refs <= 60000
 rotate_left
 ·obtain rfl : r = false := by rw [HR.out, decide_eq_false a2]; rfl
  have z2 : 60000 < refs := by omega
  clear a2
  go_wp2_with (go_at_call 44; refine (HFT.out _).mono ?_; rintro e w10 ⟨rfl, rfl⟩)
  have b2 := ((((((HK9.out.put 0 (.int .i64 gen)).put 1 (.int .i64 tag)).put 2 (.int .i64 num)).put 3 (.int .i64 refs)).put 4 (.int .i64 next)).put 5 (.string B)).put 6 (.int .i64 0)
  refine dN rfl rfl (aT (off := 0) b2 (fun j v h => by rw [Nat.zero_add]; exact h) (fun w => by kernel_rfl) (fun w => by kernel_rfl)) rfl rfl ?_
  exact ⟨rfl, ((((((HB9.out.setCell (Nat.le_refl _) _).setCell (Nat.le_refl _) _).setCell (Nat.le_refl _) _).setCell (Nat.le_refl _) _).setCell (Nat.le_refl _) _).setCell (Nat.le_refl _) _).setCell (Nat.le_refl _) _⟩
 have z2 : ¬ 60000 < refs := by omega
 by_cases a3 : sz <= 236
 rotate_left
 ·obtain rfl : r = false := by rw [HR.out, decide_eq_false a3, decide_eq_true a2]; rfl
  have z3 : 236 < (sz : Int) := by omega
  clear a3
  go_wp2_with (go_at_call 44; refine (HFT.out _).mono ?_; rintro e w10 ⟨rfl, rfl⟩)
  have b2 := ((((((HK9.out.put 0 (.int .i64 gen)).put 1 (.int .i64 tag)).put 2 (.int .i64 num)).put 3 (.int .i64 refs)).put 4 (.int .i64 next)).put 5 (.string B)).put 6 (.int .i64 0)
  refine dN rfl rfl (aT (off := 0) b2 (fun j v h => by rw [Nat.zero_add]; exact h) (fun w => by kernel_rfl) (fun w => by kernel_rfl)) rfl rfl ?_
  exact ⟨by rw [decide_eq_false (show ¬ (sz : Int) <= 236 by omega)]; rfl, ((((((HB9.out.setCell (Nat.le_refl _) _).setCell (Nat.le_refl _) _).setCell (Nat.le_refl _) _).setCell (Nat.le_refl _) _).setCell (Nat.le_refl _) _).setCell (Nat.le_refl _) _).setCell (Nat.le_refl _) _⟩
 obtain rfl : r = true := by rw [HR.out, decide_eq_true a3, decide_eq_true a2]; rfl
 have z3 : ¬ 236 < (sz : Int) := by omega
 have z4 : (sz : Int) <= 236 := by omega
 go_wp2_with (go_at_call 44; refine (HFT.out _).mono ?_; rintro e w10 ⟨rfl, rfl⟩)
 have b2 := ((((((HK9.out.put 0 (.int .i64 gen)).put 1 (.int .i64 tag)).put 2 (.int .i64 num)).put 3 (.int .i64 refs)).put 4 (.int .i64 next)).put 5 (.string B)).put 6 (.int .i64 0)
 refine dN rfl rfl (aT (off := 0) b2 (fun j v h => by rw [Nat.zero_add]; exact h) (fun w => by kernel_rfl) (fun w => by kernel_rfl)) rfl rfl ?_
 exact ⟨rfl, ((((((HB9.out.setCell (Nat.le_refl _) _).setCell (Nat.le_refl _) _).setCell (Nat.le_refl _) _).setCell (Nat.le_refl _) _).setCell (Nat.le_refl _) _).setCell (Nat.le_refl _) _).setCell (Nat.le_refl _) _⟩
set_option maxRecDepth 100000
set_option maxHeartbeats 8000000
theorem bU.getR_size {N : Nat} {K : KD} {h : List ByteArray} {c : Nat} (r : bU N K h c) (t : Int) : (gI K t).1.size <= 100000 := by
 unfold gI
 split
 ·exact r.fsize t
 ·split
  ·show (K.S.read (111 + t)).size <= _
   unfold DS.read
   split
   ·rw [List.getD_eq_getElem?_getD]
    rcases hx : K.S.now[(111 + t).toNat]? with _ | x
    ·decide
    ·exact r.small x (List.mem_of_getElem? hx)
   ·decide
  ·decide
theorem Vg {w0 w : World} {g gd m N : Nat} {K : KD} {h : List ByteArray} {c : Nat} (s : Dm w0 w g gd m K) (r : bU N K h c) {t : Int} (ht : nK t) :
  Calls Tryz.prog 67 #[.pointer (some ⟨g, 0, none⟩), .int .i64 t] w fun e w' => e = .returned (.tuple #[.string (gI K t).1, .int .i64 (gI K t).2]) /\ Below w.heap.size w w' := by
 obtain ⟨P, h1, h2, h3⟩ := s
 have hl := r.ok.len
 have hd := r.ok.dim
 exact Te t h1 r.bad r.up (by omega) (by omega) r.small (r.fsize _) ht
theorem Kw {G : Int -> ByteArray × Int} {n : Nat} {l : List LK} {t : Int} {X : ByteArray} (hG : G t = (X, 0)) (hr : (bJ X).2 = true) (hf : eF (bJ X).1 l = true) :
  dX G (n + 1) l t = if (bJ X).1.next = 0 then (l ++ [((bJ X).1.put t)], 0) else dX G n (l ++ [((bJ X).1.put t)]) (bJ X).1.next := by
 rw [dX, hG, if_neg (by simp), if_neg (by simp [hr, hf])]
theorem Hd {G : Int -> ByteArray × Int} {n : Nat} {l : List LK} {t : Int} {X : ByteArray} (hG : G t = (X, 0)) (h : (bJ X).2 = false \/ eF (bJ X).1 l = false) : dX G (n + 1) l t = ([], 25) := by
 rw [dX, hG, if_neg (by simp), if_pos h]
theorem Qm {G : Int -> ByteArray × Int} {n : Nat} {l : List LK} {t : Int} {X : ByteArray} {e : Int} (hG : G t = (X, e)) (h : e ≠ 0) : dX G (n + 1) l t = ([], e) := by
 rw [dX, hG, if_pos h]
def sY (w : World) (R : List LK × Int) (e : Ending) (w' : World) : Prop :=
 ∃ A c, e = .returned (.tuple #[.slice A R.1.length c, .int .i64 R.2]) /\ w'.ownsRow w.heap.size 83 7 (.slice A R.1.length c) R.1.length (jT R.1) /\ Below w.heap.size w w'
theorem pW {w w' : World} {e : Int} (hb : Below w.heap.size w w') : sY w ([], e) (.returned (.tuple #[.slice none 0 0, .int .i64 e])) w' := ⟨none, 0, rfl, World.ownsRow_nil _ _ _ _, hb⟩
theorem Vh {w : World} {base n c : Nat} {p : Option Addr} {l : List LK} (h : w.ownsRow base 83 7 (.slice p n c) n (jT l)) (hl : l.length = n) : Mc w p l := by
 intro x hx
 have hn : 0 < n := by
  rcases Nat.eq_zero_or_pos n with h0 | h0
  ·rw [List.getElem?_eq_none (by omega)] at hx; cases hx
  ·exact h0
 obtain ⟨g, e, _, hlt, hc⟩ := mA h hn
 have := hc 0 x hx
 exact ⟨g, e, hlt, by simpa using this.c0, by simpa using this.c1⟩
theorem tW {w0 w : World} {g gd m N : Nat} {K : KD} {h : List ByteArray} {c : Nat} (s : Dm w0 w g gd m K) (r : bU N K h c) {t0 : Int} (ht : nK t0) :
  Calls Tryz.prog 33 #[.pointer (some ⟨g, 0, none⟩), .int .i64 t0] w fun e w' => sY w (aI K t0) e w' := by
 obtain ⟨i0, hi, hz0, hz1, hz2⟩ := info_parts Qi
 have HI : Hid (Tryz.prog.info? 83 = some i0 /\ i0.zero = some (.agg #[.int .i64 0, .int .i64 0, .int .i64 0, .int .i64 0, .int .i64 0, .string .empty, .int .i64 0]) /\ i0.size = 7 /\ i0.bytes = 64) := Lib.hid ⟨hi, hz0, hz1, hz2⟩
 have HGET : Hid (∀ (w1 : World) (t : Int), Below w.heap.size w w1 -> nK t -> Calls Tryz.prog 67 #[.pointer (some ⟨g, 0, none⟩), .int .i64 t] w1 fun e w' => e = .returned (.tuple #[.string (gI K t).1, .int .i64 (gI K t).2]) /\ Below w1.heap.size w1 w') := Lib.hid (fun w1 t hb ht => Vg (s.below hb) r ht)
 have HZ := Lib.hid r.getR_size
 have HT := Lib.hid ht
 clear hi hz0 hz1 hz2 s r ht
 go_enter Tryz.func33, Tryz.ntmps33
 go_wp2_with fail
 go_loopw [1, 6, 11] (fun a v i wr => ∃ (j : Nat) (l : List LK) (t : Int), j <= 40 /\ i = .int .i64 j /\ a = .int .i64 t /\ nK t /\ l.length = j /\ wr.ownsRow w.heap.size 83 7 v j (jT l) /\ Below w.heap.size w wr /\ aI K t0 = dX (gI K) (40 - j) l t) (fun _ _ i _ => 40 - (intOf i).toNat)
 case atStart => exact ⟨0, [], t0, by omega, rfl, rfl, HT.out, rfl, World.ownsRow_nil _ _ _ _, Below.refl _ _, rfl⟩
 case round =>
  obtain ⟨j, l, t, hj, rfl, rfl, ht, hl, hrow, hb, hw⟩ := hrel
  obtain ⟨p, cap, rfl, -⟩ := kV hrow
  have HL := Lib.hid hl
  have HROW := Lib.hid hrow
  have HB := Lib.hid hb
  have HW := Lib.hid hw
  have HTT := Lib.hid ht
  clear hl hrow hb hw ht
  by_cases hlt : j < 40
  rotate_left
  ·obtain rfl : j = 40 := by omega
   have HE : Hid (aI K t0 = ([], 25)) := Lib.hid (by rw [HW.out]; rfl)
   go_wp2_with fail
   go_ret2
   rw [HE.out]
   exact pW HB.out
  have hjI : (j : Int) < 40 := by omega
  obtain ⟨n, hn⟩ : ∃ n, 40 - j = n + 1 := ⟨40 - j - 1, by omega⟩
  obtain ⟨X, hX⟩ : ∃ X, X = (gI K t).1 := ⟨_, rfl⟩
  obtain ⟨er, her⟩ : ∃ er, er = (gI K t).2 := ⟨_, rfl⟩
  have HG := Lib.hid (HGET.out wr t HB.out HTT.out)
  rw [<- hX, <- her] at HG
  have HXS : Hid (X.size <= 100000) := Lib.hid (by rw [hX]; exact HZ.out t)
  have HGE : Hid (gI K t = (X, er)) := Lib.hid (by rw [hX, her])
  have HNN := Lib.hid hn
  have HLT := Lib.hid hlt
  clear hX her hn hlt
  go_wp2_with fail
  refine HG.out.mono ?_
  rintro e w2 ⟨rfl, hb2⟩
  have HB2 : Hid (Below w.heap.size w w2) := Lib.hid (HB.out.trans (hb2.mono HB.out.size))
  have HROW2 := Lib.hid (dR HROW.out hb2)
  clear hb2 HG HROW
  by_cases he : er = 0
  rotate_left
  ·have HE : Hid (aI K t0 = ([], er)) := Lib.hid (by rw [HW.out, HNN.out]; exact Qm HGE.out he)
   have z0 : (er == 0) = false := by simpa using he
   clear he
   go_wp2_with fail
   go_ret2
   rw [HE.out]
   exact pW HB2.out
  subst he
  obtain ⟨x, hx⟩ : ∃ x, x = (bJ X).1 := ⟨_, rfl⟩
  obtain ⟨ok, hok⟩ : ∃ ok, ok = (bJ X).2 := ⟨_, rfl⟩
  have HRD := Lib.hid (Ky X w2 HXS.out)
  rw [<- hx, <- hok] at HRD
  have HXE := Lib.hid hx
  have HOK := Lib.hid hok
  have HDS : Hid (x.data.size <= 100000) := Lib.hid (by rw [hx]; exact Nat.le_trans (zK X) HXS.out)
  have HNX : Hid (0 <= x.next /\ x.next <= 9223372036854775807) := Lib.hid (by rw [hx]; exact Kx X)
  have HFO : Hid (∀ w1, Below w2.heap.size w2 w1 -> Calls Tryz.prog 69 #[x.val, .slice p j cap] w1 fun e w' => e = .returned (.bool (eF x l)) /\ Below w1.heap.size w1 w') := Lib.hid (fun w1 hb => Ac x p j cap l w1 HL.out (Vh (dR HROW2.out hb) HL.out) (by have := HLT.out; omega) HDS.out)
  obtain ⟨fo, hfo⟩ : ∃ fo, fo = eF x l := ⟨_, rfl⟩
  rw [<- hfo] at HFO
  have HFE := Lib.hid hfo
  obtain ⟨gen, tag, num, refs, next, B, at_⟩ := x
  have hval : (LK.mk gen tag num refs next B at_).val = .agg #[.int .i64 gen, .int .i64 tag, .int .i64 num, .int .i64 refs, .int .i64 next, .string B, .int .i64 at_] := rfl
  rw [hval] at HRD HFO
  simp only at HNX HDS
  clear hx hok hfo hval
  go_wp2_with fail
  refine HRD.out.mono ?_
  rintro e w3 ⟨rfl, hb3⟩
  have HB3 : Hid (Below w.heap.size w w3) := Lib.hid (HB2.out.trans (hb3.mono HB2.out.size))
  have HB23 : Hid (Below w2.heap.size w2 w3) := Lib.hid hb3
  have HROW3 := Lib.hid (dR HROW2.out hb3)
  clear hb3 HRD
  cases ok with
  | false =>
    have HE : Hid (aI K t0 = ([], 25)) := Lib.hid (by rw [HW.out, HNN.out]; exact Hd HGE.out (.inl HOK.out.symm))
    go_wp2_with fail
    go_ret2
    rw [HE.out]
    exact pW (HB3.out.alloc HB3.out.size _)
  | true =>
  have HB4 : Hid (Below w2.heap.size w2 (w3.alloc (.cells #[.int .i64 gen, .int .i64 tag, .int .i64 num, .int .i64 refs, .int .i64 next, .string B, .int .i64 at_] 83))) := Lib.hid (HB23.out.alloc HB23.out.size _)
  have HK4 : Hid (aG (w3.alloc (.cells #[.int .i64 gen, .int .i64 tag, .int .i64 num, .int .i64 refs, .int .i64 next, .string B, .int .i64 at_] 83)) w3.heap.size 83 #[.int .i64 gen, .int .i64 tag, .int .i64 num, .int .i64 refs, .int .i64 next, .string B, .int .i64 at_]) := Lib.hid (aG.new _ _ _)
  have HB4w : Hid (Below w.heap.size w (w3.alloc (.cells #[.int .i64 gen, .int .i64 tag, .int .i64 num, .int .i64 refs, .int .i64 next, .string B, .int .i64 at_] 83))) := Lib.hid (HB3.out.alloc HB3.out.size _)
  have HROW4 : Hid ((w3.alloc (.cells #[.int .i64 gen, .int .i64 tag, .int .i64 num, .int .i64 refs, .int .i64 next, .string B, .int .i64 at_] 83)).ownsRow w.heap.size 83 7 (.slice p j cap) j (jT l)) := Lib.hid (HROW3.out.alloc _)
  obtain ⟨W4, hW4⟩ : ∃ W4, W4 = w3.alloc (.cells #[.int .i64 gen, .int .i64 tag, .int .i64 num, .int .i64 refs, .int .i64 next, .string B, .int .i64 at_] 83) := ⟨_, rfl⟩
  obtain ⟨g9, hg9⟩ : ∃ g9, g9 = w3.heap.size := ⟨_, rfl⟩
  have HG9 := Lib.hid hg9
  have HG9B : Hid (w.heap.size <= g9) := Lib.hid (by rw [hg9]; exact HB3.out.size)
  have HAP : Hid (∀ k, (Value.slice p j cap).ownBlock = some k -> k ≠ g9) := Lib.hid (fun k hk => by have := (HROW3.out.lt k hk).2; rw [hg9]; omega)
  rw [<- hg9, <- hW4] at HK4
  rw [<- hW4] at HB4 HB4w HROW4
  have HW4 := Lib.hid hW4
  clear hW4 hg9 HROW3 HROW2 HB3 HB23
  have HFOL := Lib.hid (HFO.out _ HB4.out)
  rw [HW4.out] at HFOL
  cases fo with
  | false =>
    have HE : Hid (aI K t0 = ([], 25)) := Lib.hid (by rw [HW.out, HNN.out]; exact Hd HGE.out (.inr (by rw [<- HXE.out]; exact HFE.out.symm)))
    go_wp2_with fail
    refine HFOL.out.mono ?_
    rintro e w5 ⟨rfl, hb5⟩
    rw [<- HW4.out] at hb5
    go_wp2_with fail
    go_ret2
    rw [HE.out]
    exact pW (HB4w.out.trans (hb5.mono HB4w.out.size))
  | true =>
  go_wp2_with fail
  refine HFOL.out.mono ?_
  rintro e w5 ⟨rfl, hb5⟩
  rw [<- HW4.out] at hb5
  rw [<- HG9.out]
  have HB5 : Hid (Below w.heap.size w w5) := Lib.hid (HB4w.out.trans (hb5.mono HB4w.out.size))
  have HK5 := Lib.hid (HK4.out.below hb5 HK4.out.lt)
  have HROW5 := Lib.hid (dR HROW4.out hb5)
  have HSTEP : Hid (aI K t0 = if next = 0 then (l ++ [⟨gen, tag, num, refs, next, B, t⟩], 0) else dX (gI K) n (l ++ [⟨gen, tag, num, refs, next, B, t⟩]) next) := Lib.hid (by
   have e := Kw (n := n) (l := l) HGE.out HOK.out.symm (by rw [<- HXE.out]; exact HFE.out.symm)
   rw [<- HXE.out] at e
   rw [HW.out, HNN.out]
   exact e)
  clear hb5 HFOL HFO HK4 HROW4 HB4 HB4w HW4 HG9 HGE HOK HXE HFE
  have HK6 : Hid (aG (w5.setCell ⟨g9, 6, none⟩ (.int .i64 t)) g9 83 #[.int .i64 gen, .int .i64 tag, .int .i64 num, .int .i64 refs, .int .i64 next, .string B, .int .i64 t]) := Lib.hid (HK5.out.put 6 _)
  have HB6 : Hid (Below w.heap.size w (w5.setCell ⟨g9, 6, none⟩ (.int .i64 t))) := Lib.hid (HB5.out.setCell HG9B.out _)
  have HROW6 : Hid ((w5.setCell ⟨g9, 6, none⟩ (.int .i64 t)).ownsRow w.heap.size 83 7 (.slice p j cap) j (jT l)) := Lib.hid (cG HROW5.out (fun k hk => Below.heap_setCell _ _ _ _ (HAP.out k hk)))
  obtain ⟨W6, hW6⟩ : ∃ W6, W6 = w5.setCell ⟨g9, 6, none⟩ (.int .i64 t) := ⟨_, rfl⟩
  rw [<- hW6] at HK6 HB6 HROW6
  have hs6 : W6.heap.size = w5.heap.size := by rw [hW6]; simp [World.setCell]
  have HW6 := Lib.hid hW6
  clear hW6
  have c5_0 := HK5.out.cell 0
  have c5_1 := HK5.out.cell 1
  have c5_2 := HK5.out.cell 2
  have c5_3 := HK5.out.cell 3
  have c5_4 := HK5.out.cell 4
  have c5_5 := HK5.out.cell 5
  have c5_6 := HK5.out.cell 6
  have f5_6 := HK5.out.frozen 6
  simp at c5_0 c5_1 c5_2 c5_3 c5_4 c5_5 c5_6
  have HA6 := Lib.hid (HROW6.out.alloc (.cells #[.int .i64 gen, .int .i64 tag, .int .i64 num, .int .i64 refs, .int .i64 next, .string B, .int .i64 t] 83))
  have HN6 : Hid (∀ (i : Nat) (u : Value), (LK.mk gen tag num refs next B t).vals[i]? = some u -> (W6.alloc (.cells #[.int .i64 gen, .int .i64 tag, .int .i64 num, .int .i64 refs, .int .i64 next, .string B, .int .i64 t] 83)).cell? ((⟨w5.heap.size, 0, none⟩ : Addr).add i) = some u) := Lib.hid (by
   intro i u hu
   rw [<- hs6]
   rw [Go.WideShapes.add_plain, Nat.zero_add]
   have := (aG.new W6 83 #[.int .i64 gen, .int .i64 tag, .int .i64 num, .int .i64 refs, .int .i64 next, .string B, .int .i64 t]).cell i
   rw [this]
   simpa [LK.vals] using hu)
  have HSZ : Hid (w.heap.size <= (W6.alloc (.cells #[.int .i64 gen, .int .i64 tag, .int .i64 num, .int .i64 refs, .int .i64 next, .string B, .int .i64 t] 83)).heap.size) := Lib.hid (by have := HB6.out.size; simp; omega)
  have HK7 : Hid (aG (W6.alloc (.cells #[.int .i64 gen, .int .i64 tag, .int .i64 num, .int .i64 refs, .int .i64 next, .string B, .int .i64 t] 83)) g9 83 #[.int .i64 gen, .int .i64 tag, .int .i64 num, .int .i64 refs, .int .i64 next, .string B, .int .i64 t]) := Lib.hid (HK6.out.alloc _)
  rw [HW6.out] at HA6 HN6 HSZ HK7
  clear hs6
  have HLJ : Hid (j < 40) := HLT
  have HB7f : Hid (∀ w7, (((w5.setCell ⟨g9, 6, none⟩ (.int .i64 t)).alloc (.cells #[.int .i64 gen, .int .i64 tag, .int .i64 num, .int .i64 refs, .int .i64 next, .string B, .int .i64 t] 83)).grownBy w7 (Value.slice p j cap).ownBlock) -> Below w.heap.size w w7) := Lib.hid (fun w7 hg => by
   have hb : Below w.heap.size w ((w5.setCell ⟨g9, 6, none⟩ (.int .i64 t)).alloc (.cells #[.int .i64 gen, .int .i64 tag, .int .i64 num, .int .i64 refs, .int .i64 next, .string B, .int .i64 t] 83)) := by rw [<- HW6.out]; exact HB6.out.alloc HB6.out.size _
   exact hb.grown hg HSZ.out (fun k hk => (World.ownsRow.lt HA6.out k hk).1))
  have HEN : Hid (jT l ++ (LK.mk gen tag num refs next B t).vals = jT (l ++ [LK.mk gen tag num refs next B t])) := Lib.hid (Ku _ _).symm
  have HT1 : Hid (∀ (ops : Array Oper) (rest : List Oper) (o : Oper) (a : Act) (Q : Exit -> Act -> World -> Prop) (s x : Operand), o.guard = none -> o.op = .call { callee := .builtin .append, args := #[s, x], argTypes := #[75, 75] } -> a.eval s = .slice p j cap -> a.eval x = .slice (some ⟨w5.heap.size, 0, none⟩) 1 1 -> (∀ v' w', w'.ownsRow w.heap.size 83 7 v' (j + 1) (jT l ++ (LK.mk gen tag num refs next B t).vals) -> ((w5.setCell ⟨g9, 6, none⟩ (.int .i64 t)).alloc (.cells #[.int .i64 gen, .int .i64 tag, .int .i64 num, .int .i64 refs, .int .i64 next, .string B, .int .i64 t] 83)).grownBy w' (Value.slice p j cap).ownBlock -> w'.cell? ⟨g9, 4, none⟩ = some (.int .i64 next) -> wpList Tryz.prog ops Q rest (a.put o.dst v') w') -> wpList Tryz.prog ops Q (o :: rest) a ((w5.setCell ⟨g9, 6, none⟩ (.int .i64 t)).alloc (.cells #[.int .i64 gen, .int .i64 tag, .int .i64 num, .int .i64 refs, .int .i64 next, .string B, .int .i64 t] 83))) := Lib.hid (by
   intro ops rest o a Q s x hgd ho hs hx hK
   refine wpList_append_own _ hgd s x 75 ho w.heap.size 83 i0 (.agg #[.int .i64 0, .int .i64 0, .int .i64 0, .int .i64 0, .int .i64 0, .string .empty, .int .i64 0]) 7 64 Tryz.underlying75 HI.out.1 HI.out.2.1 HI.out.2.2.1 HI.out.2.2.2 rfl (by omega) _ _ _ hs HA6.out ⟨w5.heap.size, 0, none⟩ 1 1 (LK.mk gen tag num refs next B t).vals hx rfl HN6.out (LK.vals_one _) (by have := HLJ.out; unfold maxLen; omega) (by have := HLJ.out; omega) HSZ.out (fun v' w' h1 h2 _ => hK v' w' h1 h2 ?_)
   have := (HK7.out.grown h2 (fun e => HAP.out _ e.symm rfl)).cell 4
   simpa using this)
  by_cases hnx : next = 0
  ·subst hnx
   have HSE : Hid (aI K t0 = (l ++ [⟨gen, tag, num, refs, 0, B, t⟩], 0)) := Lib.hid (by rw [HSTEP.out, if_pos rfl])
   go_wp2_with (at_builtin; refine HT1.out _ _ _ _ _ _ _ rfl rfl rfl rfl ?_; intro v1 w7 hown1 hg1 c8; have HO7 := Lib.hid hown1; have HG7 := Lib.hid hg1; clear hown1 hg1)
   obtain ⟨p7, c7, rfl, -⟩ := kV HO7.out
   go_ret2
   rw [HSE.out]
   have hlen : (l ++ [LK.mk gen tag num refs 0 B t]).length = j + 1 := by rw [List.length_append, HL.out]; rfl
   have hr := HO7.out
   rw [HEN.out] at hr
   exact ⟨p7, c7, by rw [hlen]; rfl, by rw [hlen]; exact hr, HB7f.out _ HG7.out⟩
  ·have z1 : (next == 0) = false := by simpa using hnx
   have HSE : Hid (aI K t0 = dX (gI K) n (l ++ [⟨gen, tag, num, refs, next, B, t⟩]) next) := Lib.hid (by rw [HSTEP.out, if_neg hnx])
   clear hnx
   go_wp2_with (at_builtin; refine HT1.out _ _ _ _ _ _ _ rfl rfl rfl rfl ?_; intro v1 w7 hown1 hg1 c8; have HO7 := Lib.hid hown1; have HG7 := Lib.hid hg1; clear hown1 hg1)
   have hr := HO7.out
   rw [HEN.out] at hr
   have HR7 := Lib.hid hr
   clear hr
   refine ⟨⟨j + 1, l ++ [⟨gen, tag, num, refs, next, B, t⟩], next, HLT.out, by go_num, rfl, ⟨by have := HNX.out.1; omega, HNX.out.2⟩, by rw [List.length_append, HL.out]; rfl, HR7.out, HB7f.out _ HG7.out, by rw [HSE.out, show 40 - (j + 1) = n by have := HNN.out; omega]⟩, ?_⟩
   have := HLT.out
   simp [intOf]
   omega
end Go.Proofs.YtingkbeifohihaaGreatDoor
