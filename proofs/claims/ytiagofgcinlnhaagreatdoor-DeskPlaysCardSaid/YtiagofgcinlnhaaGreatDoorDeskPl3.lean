/-
  DeskPlays' acts New, Drop and Keep: what their loops count, and a lent list across a call. No statement is proved here.
-/
import Derived.Test.YtiagofgcinlnhaaGreatDoorDeskStart
import Derived.Laws.OwnMore
import Derived.Test.YtiagofgcinlnhaaGreatDoorDeskSyncD
namespace Go.Proofs.YtiagofgcinlnhaaGreatDoor
open Go.RowKit
theorem make_texts (W : World) (n : Nat) (hn : n ≤ 5000) : (Instr.makeSlice 38 (.int .i64 (n : Int)) (.int .i64 (n : Int))).run Tryz.prog W = .ok (.slice (some ⟨W.heap.size, 0, none⟩) n n) (W.alloc (.cells (txtV (List.replicate n .empty)).toArray 9)) := by
  obtain ⟨i0, hi0, hz0, hz1, hz2⟩ := info_parts str_info
  have hr := run_make (P := Tryz.prog) W 38 9 i0 (.string .empty) Tryz.underlying38 hi0 hz0 .i64 .i64 (n : Int) (n : Int) (by omega) (Int.le_refl _) (by rw [hz2]; omega) (by omega)
  have hc : madeCells (Value.string .empty).cells (((n : Nat) : Int).toNat * i0.size) = (txtV (List.replicate n .empty)).toArray := by
    rw [hz1, Nat.mul_one, Int.toNat_natCast]
    refine Array.toList_inj.1 ?_
    rw [show (Value.string .empty).cells = #[Value.string .empty] from rfl, toList_madeCells_one]
    simp [txtV]
  rw [hc] at hr
  simpa using hr
theorem own_texts (W : World) (n : Nat) (hn : n ≤ 5000) : (W.alloc (.cells (txtV (List.replicate n .empty)).toArray 9)).ownsRow W.heap.size 9 1 (.slice (some ⟨W.heap.size, 0, none⟩) n n) n (txtV (List.replicate n .empty)) := by
  refine ⟨by simp [txtV], .inr ⟨_, n, _, rfl, Nat.le_refl _, Blk.new W _ _, Nat.le_refl _, by unfold maxLen; omega, by simp [txtV], ?_⟩⟩
  rw [List.take_of_length_le (by simp [txtV])]
theorem own_two (W : World) : (W.alloc (.cells #[.int .i64 0, .int .i64 1] 3)).ownsRow W.heap.size 3 1 (.slice (some ⟨W.heap.size, 0, none⟩) 2 2) 2 (intV [0, 1]) :=
  ⟨rfl, .inr ⟨_, 2, _, rfl, Nat.le_refl _, Blk.new W _ _, Nat.le_refl _, by unfold maxLen; omega, rfl, rfl⟩⟩
theorem putAll_at {lo k j : Nat} {f : Nat → Value} {T : Array Value} (hlo : lo + k ≤ T.size) (hj : j < k) : (putAll lo k f T)[lo + j]?.getD undef = f j := by
  rw [putAll_get _ _ _ _ hlo, if_pos (by omega), Nat.add_sub_cancel_left]
  rfl
theorem wpOps_boxed {ops : Array Oper} {Q : Exit → Act → World → Prop} {y : Act} {w : World} {k a b c e r d t1 t2 t3 : Nat} {p1 p2 p3 : String} {f1 f2 f3 : Array Edge} {q0 q1 q2 q3 : Option Addr} {n0 c0 n1 c1 n2 c2 n3 c3 : Nat}
    (h6 : ops[k]? = some { dst := some r, op := .build 41 #[(0, .tmp a), (1, .tmp b), (2, .tmp c), (3, .tmp e)], type := t1, pos := p1, after := f1, guard := none })
    (h7 : ops[k + 1]? = some { dst := some (r + 1), op := .box 41 (.tmp r), type := t2, pos := p2, after := f2, guard := none })
    (h8 : ops[k + 2]? = some { dst := some d, op := .assign (.tmp (r + 1)), type := t3, pos := p3, after := f3, guard := none })
    (s0 : y.tmps[a]?.getD undef = .slice q0 n0 c0) (s1 : y.tmps[b]?.getD undef = .slice q1 n1 c1) (s2 : y.tmps[c]?.getD undef = .slice q2 n2 c2) (s3 : y.tmps[e]?.getD undef = .slice q3 n3 c3) (hsz : r + 1 < y.tmps.size)
    (hQ : Q .normal ⟨((y.tmps.setIfInBounds r (.agg #[.slice q0 n0 c0, .slice q1 n1 c1, .slice q2 n2 c2, .slice q3 n3 c3])).setIfInBounds (r + 1) (.pointer (some ⟨w.heap.size, 0, none⟩))).setIfInBounds d (.pointer (some ⟨w.heap.size, 0, none⟩)), y.defers⟩ (w.alloc (.cells #[.slice q0 n0 c0, .slice q1 n1 c1, .slice q2 n2 c2, .slice q3 n3 c3] 41))) :
    wpOps Tryz.prog ops Q (List.range' k 3) y w := by
  have hr : r < y.tmps.size := by omega
  show wpOps Tryz.prog ops Q [k, k + 1, k + 1 + 1] y w
  rw [wpOps_cons]
  refine wpOp_value (v := .agg #[.slice q0 n0 c0, .slice q1 n1 c1, .slice q2 n2 c2, .slice q3 n3 c3]) (w' := w) h6 rfl (by go_simp) ?_
  rw [wpOps_cons]
  have g1 : (y.put (some r) (.agg #[.slice q0 n0 c0, .slice q1 n1 c1, .slice q2 n2 c2, .slice q3 n3 c3])).tmps[r]?.getD undef = .agg #[.slice q0 n0 c0, .slice q1 n1 c1, .slice q2 n2 c2, .slice q3 n3 c3] := by
    show (y.tmps.setIfInBounds r _)[r]?.getD undef = _
    rw [Array.getElem?_setIfInBounds_self_of_lt (by omega)]
    rfl
  refine wpOp_value (v := .pointer (some ⟨w.heap.size, 0, none⟩)) (w' := w.alloc (.cells #[.slice q0 n0 c0, .slice q1 n1 c1, .slice q2 n2 c2, .slice q3 n3 c3] 41)) h7 rfl (by go_simp) ?_
  rw [wpOps_cons]
  have g2 : ((y.put (some r) (.agg #[.slice q0 n0 c0, .slice q1 n1 c1, .slice q2 n2 c2, .slice q3 n3 c3])).put (some (r + 1)) (.pointer (some ⟨w.heap.size, 0, none⟩))).tmps[r + 1]?.getD undef = .pointer (some ⟨w.heap.size, 0, none⟩) := by
    show ((y.tmps.setIfInBounds r _).setIfInBounds (r + 1) _)[r + 1]?.getD undef = _
    rw [Array.getElem?_setIfInBounds_self_of_lt (by rw [Array.size_setIfInBounds]; omega)]
    rfl
  refine wpOp_value (v := .pointer (some ⟨w.heap.size, 0, none⟩)) (w' := w.alloc (.cells #[.slice q0 n0 c0, .slice q1 n1 c1, .slice q2 n2 c2, .slice q3 n3 c3] 41)) h8 rfl (by go_simp) ?_
  exact hQ
theorem wpOps_state {ops : Array Oper} {Q : Exit → Act → World → Prop} {w : World} {T : Array Value} {ds : List Deferred} {f : Nat → Value} {lo k a b c e d t1 t2 t3 : Nat} {p1 p2 p3 : String} {f1 f2 f3 : Array Edge} {q0 q1 q2 q3 : Option Addr} {n0 c0 n1 c1 n2 c2 n3 c3 : Nat}
    (h6 : ops[k]? = some { dst := some (lo + k), op := .build 41 #[(0, .tmp (lo + a)), (1, .tmp (lo + b)), (2, .tmp (lo + c)), (3, .tmp (lo + e))], type := t1, pos := p1, after := f1, guard := none })
    (h7 : ops[k + 1]? = some { dst := some (lo + k + 1), op := .box 41 (.tmp (lo + k)), type := t2, pos := p2, after := f2, guard := none })
    (h8 : ops[k + 2]? = some { dst := some d, op := .assign (.tmp (lo + k + 1)), type := t3, pos := p3, after := f3, guard := none })
    (hT : lo + k + 1 < T.size) (ha : a < k) (hb : b < k) (hc : c < k) (he : e < k) (ea : f a = .slice q0 n0 c0) (eb : f b = .slice q1 n1 c1) (ec : f c = .slice q2 n2 c2) (ee : f e = .slice q3 n3 c3)
    (hQ : Q .normal ⟨(((putAll lo k f T).setIfInBounds (lo + k) (.agg #[.slice q0 n0 c0, .slice q1 n1 c1, .slice q2 n2 c2, .slice q3 n3 c3])).setIfInBounds (lo + k + 1) (.pointer (some ⟨w.heap.size, 0, none⟩))).setIfInBounds d (.pointer (some ⟨w.heap.size, 0, none⟩)), ds⟩ (w.alloc (.cells #[.slice q0 n0 c0, .slice q1 n1 c1, .slice q2 n2 c2, .slice q3 n3 c3] 41))) :
    wpOps Tryz.prog ops Q (List.range' k 3) ⟨putAll lo k f T, ds⟩ w :=
  wpOps_boxed h6 h7 h8 ((putAll_at (by omega) ha).trans ea) ((putAll_at (by omega) hb).trans eb) ((putAll_at (by omega) hc).trans ec) ((putAll_at (by omega) he).trans ee) (by show _ < (putAll lo k f T).size; rw [putAll_size]; exact hT) hQ
theorem wpOps_stored {ops : Array Oper} {Q : Exit → Act → World → Prop} {w : World} {T : Array Value} {ds : List Deferred} {f : Nat → Value} {lo k a b t1 g i : Nat} {p1 : String} {f1 : Array Edge} {v u : ByteArray}
    (h : ops[k]? = some { dst := none, op := .store 9 (.tmp (lo + a)) (.tmp (lo + b)), type := t1, pos := p1, after := f1, guard := none })
    (hT : lo + k ≤ T.size) (ha : a < k) (hb : b < k) (ea : f a = .pointer (some ⟨g, i, none⟩)) (eb : f b = .string v) (hc : w.cell? ⟨g, i, none⟩ = some (.string u)) (hz : w.frozen? ⟨g, i, none⟩ = false)
    (hQ : Q .normal ⟨putAll lo k f T, ds⟩ (w.setCell ⟨g, i, none⟩ (.string v))) :
    wpOps Tryz.prog ops Q (List.range' k 1) ⟨putAll lo k f T, ds⟩ w := by
  have s0 := (putAll_at (f := f) hT ha).trans ea
  have s1 := (putAll_at (f := f) hT hb).trans eb
  obtain ⟨y, hy⟩ : ∃ y, y = putAll lo k f T := ⟨_, rfl⟩
  rw [← hy] at s0 s1 hQ ⊢
  clear hy
  show wpOps Tryz.prog ops Q [k] _ w
  rw [wpOps_cons]
  refine wpOp_skip (w' := w.setCell ⟨g, i, none⟩ (.string v)) h rfl (by go_simp) ?_
  exact hQ
def begD (n j : Nat) : DocS := ⟨List.replicate j (zeroB 256) ++ List.replicate (n - j) .empty, List.replicate n .empty, [0, 1], [0, 1]⟩
theorem begD_len (n j : Nat) (hj : j ≤ n) : (begD n j).home.length = n := by simp [begD]; omega
theorem begD_at {n j : Nat} (hj : j < n) : (begD n j).home[j]? = some .empty := by
  show (List.replicate j (zeroB 256) ++ List.replicate (n - j) ByteArray.empty)[j]? = _
  rw [List.getElem?_append_right (by simp), List.length_replicate, Nat.sub_self, List.getElem?_replicate, if_pos (by omega)]
theorem begD_step {n j : Nat} (hj : j < n) : { begD n j with home := (begD n j).home.set j (zeroB 256) } = begD n (j + 1) := by
  obtain ⟨k, hk⟩ : ∃ k, n - j = k + 1 := ⟨n - j - 1, by omega⟩
  have hk2 : n - (j + 1) = k := by omega
  unfold begD
  simp only [hk, hk2]
  congr 1
  rw [List.set_append_right _ _ (by simp), List.length_replicate, Nat.sub_self, List.replicate_succ, List.set_cons_zero, List.replicate_succ' (n := j), List.append_assoc]
  rfl
theorem begD_end (n : Nat) : begD n n = startD n := by simp [begD, startD]
section
variable {N : Nat} {K : KD} {h : List ByteArray} {Hc : List Int} {c c' : Nat} {s : DocS}
structure MatF (N : Nat) (F : Int → ByteArray) (H : List Int) (h : List ByteArray) (Hc : List Int) (s : DocS) : Prop where
  home : s.home = h
  ol : s.on.length = N - 111
  on : ∀ t : Nat, t < N - 111 → s.on.getD t .empty = F (t : Int)
  used : s.used = H
  was : s.was = Hc
theorem Mat.f (a : Mat N K h Hc s) : MatF N K.F K.H h Hc s := ⟨a.home, a.ol, a.on, a.used, a.was⟩
theorem MatF.mat {F : Int → ByteArray} {H : List Int} (a : MatF N F H h Hc s) (K : KD) : Mat N (backK K F H) h Hc s := ⟨a.home, a.ol, a.on, a.used, a.was⟩
theorem Go11.more (r : Go11 N K h Hc c) (hc : c ≤ c') : Go11 N K h Hc c' := by
  have a1 := r.writes
  have a2 := r.kk
  have a3 := r.seq
  have a4 := r.syncs
  exact ⟨r.held, r.sok, r.left, by omega, r.ok, r.hok, r.up, r.bad, ⟨a2.1, by omega⟩, by omega, ⟨a4.1, by omega⟩, r.kept, r.cok, r.c0, r.c1, r.room⟩
theorem Mat.lens (a : Mat N K h Hc s) (r : Go11 N K h Hc c) : s.home.length = N - 111 ∧ s.on.length = N - 111 ∧ s.used.length ≤ N - 111 ∧ s.was.length ≤ N - 111 :=
  ⟨by rw [a.home]; exact r.hlen, a.ol, by rw [a.used]; exact r.hok.few, by rw [a.was]; exact r.cok.few⟩
end
section
variable {w0 w w' : World} {g gd m N B bm x : Nat} {K : KD} {h : List ByteArray} {Hc : List Int} {c : Nat} {s : DocS} {vh vo vu vw v v' : Value} {Q Q' D D' : List Nat} {Ms Ms' : List MK} {sy : Int}
structure Side (w : World) (B bm : Nat) (Q : List Nat) (x : Nat) (vh vo vu vw : Value) (s : DocS) : Prop where
  doc : DocIs w B x vh vo vu vw s
  sub : ∀ b ∈ docQ x vh vo vu vw, b ∈ Q ∧ b ≠ bm
  bmQ : bm ∈ Q
  cell : ∃ p, Blk w bm 46 #[.pointer p]
  low : B ≤ bm
theorem Side.move (t : Side w B bm Q x vh vo vu vw s) (hk : ∀ b ∈ Q, w'.heap[b]? = w.heap[b]?) : Side w' B bm Q x vh vo vu vw s := by
  obtain ⟨p, hp⟩ := t.cell
  exact ⟨t.doc.kept fun b hb => hk b (t.sub b hb).1, t.sub, t.bmQ, ⟨p, (hk bm t.bmQ).trans hp⟩, t.low⟩
theorem Side.wide (t : Side w B bm Q x vh vo vu vw s) (hQ : ∀ b ∈ Q, b ∈ Q') : Side w B bm Q' x vh vo vu vw s := ⟨t.doc, fun b hb => ⟨hQ b (t.sub b hb).1, (t.sub b hb).2⟩, hQ bm t.bmQ, t.cell, t.low⟩
theorem Side.bmD (t : Side w B bm Q x vh vo vu vw s) : bm ∉ docQ x vh vo vu vw := fun hm => (t.sub bm hm).2 rfl
def MdOk (w : World) (B bm N : Nat) (sy : Int) (h : List ByteArray) (Hc : List Int) (Q D : List Nat) (Ms : List MK) (v : Value) : Prop :=
  (v = .pointer none ∧ Ms = []) ∨ ∃ y yh yo yu yw sm st F H, v = .pointer (some ⟨y, 0, none⟩) ∧ DocIs w B y yh yo yu yw sm ∧ (∀ b ∈ docQ y yh yo yu yw, b ∈ Q ∧ b ∉ D ∧ b ≠ bm) ∧ Ms = [MK.mark st sy F H] ∧ Stay11 N F H ∧ MatF N F H h Hc sm ∧ Blk w bm 46 #[.pointer (some ⟨st, 0, none⟩)]
theorem MdOk.marks (t : MdOk w B bm N sy h Hc Q D Ms v) : ∀ M ∈ Ms, ∃ st sy F H, M = .mark st sy F H := by
  rcases t with ⟨_, rfl⟩ | ⟨y, yh, yo, yu, yw, sm, st, F, H, _, _, _, rfl, _⟩
  · intro M hM; cases hM
  · intro M hM; exact ⟨st, sy, F, H, List.mem_singleton.1 hM⟩
theorem MdOk.move (t : MdOk w B bm N sy h Hc Q D Ms v) (hk : ∀ b ∈ Q, b ∉ D → w'.heap[b]? = w.heap[b]?) (hbm : bm ∈ Q) (hbd : bm ∉ D) (hQ : ∀ b ∈ Q, b ∈ Q') (hD : ∀ b ∈ D', b ∈ D ∨ b ∉ Q) : MdOk w' B bm N sy h Hc Q' D' Ms v := by
  rcases t with t | ⟨y, yh, yo, yu, yw, sm, st, F, H, h1, h2, h3, h4, h5, h6, h7⟩
  · exact .inl t
  · refine .inr ⟨y, yh, yo, yu, yw, sm, st, F, H, h1, h2.kept (fun b hb => hk b (h3 b hb).1 (h3 b hb).2.1), (fun b hb => ⟨hQ b (h3 b hb).1, fun hd => ?_, (h3 b hb).2.2⟩), h4, h5, h6, (hk bm hbm hbd).trans h7⟩
    rcases hD b hd with e | e
    · exact (h3 b hb).2.1 e
    · exact e (h3 b hb).1
theorem MdOk.same (t : MdOk w B bm N sy h Hc Q D Ms v) (hk : ∀ b ∈ Q, w'.heap[b]? = w.heap[b]?) (hbm : bm ∈ Q) (hbd : bm ∉ D) : MdOk w' B bm N sy h Hc Q D Ms v := t.move (fun b hb _ => hk b hb) hbm hbd (fun _ h => h) (fun _ h => .inl h)
def Pl11 (w wr : World) (gd N B bm cc : Nat) (v7 v10 v13 : Value) : Prop :=
  ∃ g m K h Hc x vh vo vu vw s Q Ms, v7 = .pointer (some ⟨g, 0, none⟩) ∧ v10 = .pointer (some ⟨x, 0, none⟩) ∧ DQ w wr g gd m N K Q Ms ∧ m ≤ cc ∧ Go11 N K h Hc cc ∧ Mat N K h Hc s ∧ Side wr B bm Q x vh vo vu vw s ∧ MdOk wr B bm N K.syncs h Hc Q (docQ x vh vo vu vw) Ms v13
theorem Pl11.mk {cc : Nat} (t : DQ w0 w g gd m N K Q' Ms) (hm : m ≤ cc) (r : Go11 N K h Hc c) (hc : c ≤ cc) (a : Mat N K h Hc s) (sd : Side w B bm Q x vh vo vu vw s) (md : MdOk w B bm N K.syncs h Hc Q (docQ x vh vo vu vw) Ms v) (hQ : ∀ b ∈ Q, b ∈ Q') :
    Pl11 w0 w gd N B bm cc (.pointer (some ⟨g, 0, none⟩)) (.pointer (some ⟨x, 0, none⟩)) v :=
  ⟨g, m, K, h, Hc, x, vh, vo, vu, vw, s, Q, Ms, rfl, rfl, t.less hQ (fun _ h => h), hm, r.more hc, a, sd, md⟩
theorem Pl11.start {h0 : List ByteArray} (t : DMk w0 w g gd 1 N K []) (hb : Below w.heap.size w w') (d : DocIs w' w.heap.size x vh vo vu vw s) (r : Go11 N K h0 [0, 1] 3) (a : Mat N K h0 [0, 1] s) (hbm : Blk w' bm 46 #[.pointer none]) (hlow : w.heap.size ≤ bm) (hne : ∀ b ∈ docQ x vh vo vu vw, b ≠ bm) :
    Pl11 w0 w' gd N w.heap.size bm 3 (.pointer (some ⟨g, 0, none⟩)) (.pointer (some ⟨x, 0, none⟩)) (.pointer none) := by
  have t0 : DQ w0 w g gd 1 N K [] [] := ⟨by simpa [heldOf] using t, by simp⟩
  have t1 : DQ w0 w' g gd 1 N K (bm :: docQ x vh vo vu vw) [] := t0.more hb fun b hm => .inr (by
    rcases List.mem_cons.1 hm with rfl | hm
    · exact ⟨hlow, hbm.lt⟩
    · exact d.range b hm)
  exact ⟨g, 1, K, h0, [0, 1], x, vh, vo, vu, vw, s, _, [], rfl, rfl, t1, by omega, r, a, ⟨d, fun b hm => ⟨List.mem_cons_of_mem _ hm, hne b hm⟩, by simp, ⟨none, hbm⟩, hlow⟩, .inl ⟨rfl, rfl⟩⟩
theorem DQ.turn {g' m' : Nat} {K' : KD} (t : DMk w0 w' g' gd m' N K' (heldOf w Q ++ Ms)) (hq : ∀ b ∈ Q, b < w.heap.size) (sd : Side w B bm Q' x vh vo vu vw s) (md : MdOk w B bm N sy h Hc Q' (docQ x vh vo vu vw) Ms' v) (hQ : ∀ b ∈ Q', b ∈ Q) :
    DQ w0 w' g' gd m' N K' Q Ms ∧ Side w' B bm Q' x vh vo vu vw s ∧ MdOk w' B bm N sy h Hc Q' (docQ x vh vo vu vw) Ms' v ∧ ∀ b ∈ Q, w'.heap[b]? = w.heap[b]? := by
  obtain ⟨h1, h2⟩ := DQ.of t hq
  exact ⟨h1, sd.move fun b hb => h2 b (hQ b hb), md.same (fun b hb => h2 b (hQ b hb)) sd.bmQ sd.bmD, h2⟩
theorem Side.below (sd : Side w B bm Q x vh vo vu vw s) (t : DQ w0 w g gd m N K Q' Ms) (hQ : ∀ b ∈ Q, b ∈ Q') (hb : Below w.heap.size w w') : Side w' B bm Q x vh vo vu vw s := sd.move fun b h => hb.block b (t.2 b (hQ b h))
theorem MdOk.below (md : MdOk w B bm N sy h Hc Q (docQ x vh vo vu vw) Ms' v) (sd : Side w B bm Q x vh vo vu vw s) (t : DQ w0 w g gd m N K Q' Ms) (hQ : ∀ b ∈ Q, b ∈ Q') (hb : Below w.heap.size w w') : MdOk w' B bm N sy h Hc Q (docQ x vh vo vu vw) Ms' v := md.same (fun b h => hb.block b (t.2 b (hQ b h))) sd.bmQ sd.bmD
theorem Pl11.is {cc : Nat} {v7 v10 v13 : Value} (t : Pl11 w0 w gd N B bm cc v7 v10 v13) (hcc : cc ≤ 1000) : ∃ g x, v7 = .pointer (some ⟨g, 0, none⟩) ∧ v10 = .pointer (some ⟨x, 0, none⟩) ∧
    Calls Tryz.prog 29 #[.pointer (some ⟨g, 0, none⟩), .pointer (some ⟨x, 0, none⟩)] w fun e w' => e = .returned (.bool true) ∧ Pl11 w0 w' gd N B bm cc v7 v10 v13 := by
  obtain ⟨g, m, K, h, Hc, x, vh, vo, vu, vw, s, Q, Ms, rfl, rfl, h1, h2, h3, h4, h5, h6⟩ := t
  refine ⟨g, x, rfl, rfl, ?_⟩
  obtain ⟨l1, l2, l3, l4⟩ := h4.lens h3
  have hd := h3.ok.dim
  obtain ⟨P, k1, -, -, -⟩ := h1.1
  refine (is11_any (n := N - 111) k1 h3.ok (by omega) h3.bad h3.up h3.small h3.fsize (fun i hi => by rw [h3.get hi]) rfl ⟨_, _, _, _, h5.doc⟩ l1 l2 (by omega) (by omega) (by have := h3.hok.few; omega)).mono ?_
  rintro e w' ⟨rfl, hb⟩
  rw [h4.is h3]
  exact ⟨rfl, g, m, K, h, Hc, x, vh, vo, vu, vw, s, Q, Ms, rfl, rfl, h1.below hb, h2, h3, h4, h5.below h1 (fun _ h => h) hb, h6.below h5 h1 (fun _ h => h) hb⟩
theorem Pl11.bad {cc g : Nat} {v10 v13 : Value} (t : Pl11 w0 w gd N B bm cc (.pointer (some ⟨g, 0, none⟩)) v10 v13) : Calls Tryz.prog 26 #[.pointer (some ⟨g, 0, none⟩)] w fun e w' => e = .returned (.int .i64 0) ∧ w' = w := by
  obtain ⟨g', m, K, h, Hc, x, vh, vo, vu, vw, s, Q, Ms, e1, rfl, h1, h2, h3, h4, h5, h6⟩ := t
  injection e1 with e1
  injection e1 with e1
  injection e1 with e1
  subst e1
  have := gmk_bad h1.1
  rw [h3.bad] at this
  exact this
end
def frame11 (u : Nat → Value) (v0 v1 v5 v7 v9 v10 v12 v13 v14 : Value) : Array Value := #[v0, v1, u 2, u 3, u 4, v5, u 6, v7, u 8, v9, v10, u 11, v12, v13, v14, u 15, u 16, u 17, u 18, u 19, u 20, u 21, u 22, u 23, u 24, u 25, u 26, u 27, u 28, u 29, u 30, u 31, u 32, u 33, u 34, u 35, u 36, u 37, u 38, u 39, u 40, u 41, u 42, u 43, u 44, u 45, u 46, u 47, u 48, u 49, u 50, u 51, u 52, u 53, u 54, u 55, u 56, u 57, u 58, u 59, u 60, u 61, u 62, u 63, u 64, u 65, u 66, u 67, u 68, u 69, u 70, u 71, u 72, u 73, u 74, u 75, u 76, u 77, u 78, u 79, u 80, u 81, u 82, u 83, u 84, u 85, u 86, u 87, u 88, u 89, u 90, u 91, u 92, u 93, u 94, u 95, u 96, u 97, u 98, u 99, u 100, u 101, u 102, u 103, u 104, u 105, u 106, u 107, u 108, u 109, u 110, u 111, u 112, u 113, u 114, u 115, u 116, u 117, u 118, u 119, u 120, u 121, u 122, u 123, u 124, u 125, u 126, u 127, u 128, u 129, u 130, u 131, u 132, u 133, u 134, u 135, u 136, u 137, u 138, u 139, u 140, u 141, u 142, u 143, u 144, u 145, u 146, u 147, u 148, u 149, u 150, u 151, u 152, u 153, u 154, u 155, u 156, u 157, u 158, u 159, u 160, u 161, u 162, u 163, u 164, u 165, u 166, u 167, u 168, u 169, u 170, u 171, u 172, u 173, u 174, u 175, u 176, u 177, u 178, u 179, u 180, u 181, u 182, u 183, u 184, u 185, u 186, u 187, u 188, u 189, u 190, u 191, u 192, u 193, u 194, u 195, u 196, u 197, u 198, u 199, u 200, u 201, u 202, u 203, u 204, u 205, u 206, u 207, u 208, u 209, u 210, u 211, u 212, u 213, u 214, u 215, u 216, u 217, u 218, u 219, u 220, u 221, u 222, u 223, u 224, u 225, u 226, u 227, u 228, u 229, u 230, u 231, u 232, u 233, u 234, u 235, u 236, u 237, u 238, u 239, u 240, u 241, u 242, u 243, u 244, u 245, u 246, u 247, u 248, u 249, u 250, u 251, u 252, u 253, u 254, u 255, u 256, u 257, u 258, u 259, u 260, u 261, u 262, u 263, u 264, u 265, u 266, u 267, u 268, u 269, u 270, u 271, u 272, u 273, u 274, u 275, u 276, u 277, u 278, u 279, u 280, u 281, u 282, u 283, u 284, u 285, u 286, u 287, u 288, u 289, u 290, u 291, u 292, u 293, u 294, u 295, u 296, u 297, u 298, u 299, u 300, u 301, u 302, u 303, u 304, u 305, u 306, u 307, u 308, u 309, u 310, u 311, u 312, u 313, u 314, u 315, u 316, u 317, u 318, u 319, u 320, u 321, u 322, u 323, u 324, u 325, u 326, u 327, u 328, u 329, u 330, u 331, u 332, u 333, u 334, u 335, u 336, u 337, u 338, u 339, u 340, u 341, u 342, u 343, u 344, u 345, u 346, u 347, u 348, u 349, u 350, u 351, u 352, u 353, u 354, u 355, u 356, u 357, u 358, u 359, u 360, u 361, u 362, u 363, u 364, u 365, u 366, u 367, u 368, u 369, u 370, u 371, u 372, u 373, u 374, u 375, u 376, u 377, u 378, u 379, u 380, u 381, u 382, u 383, u 384, u 385, u 386, u 387, u 388, u 389, u 390, u 391, u 392, u 393, u 394, u 395, u 396, u 397, u 398, u 399, u 400, u 401, u 402, u 403, u 404, u 405, u 406, u 407, u 408, u 409, u 410, u 411, u 412, u 413, u 414, u 415, u 416, u 417, u 418, u 419, u 420, u 421, u 422, u 423, u 424, u 425, u 426, u 427, u 428, u 429, u 430, u 431, u 432, u 433, u 434, u 435, u 436, u 437, u 438, u 439, u 440, u 441, u 442, u 443, u 444, u 445, u 446, u 447, u 448, u 449, u 450, u 451, u 452, u 453, u 454, u 455, u 456, u 457, u 458, u 459, u 460, u 461, u 462, u 463, u 464, u 465, u 466, u 467, u 468, u 469, u 470, u 471, u 472, u 473, u 474, u 475, u 476, u 477, u 478, u 479, u 480, u 481, u 482, u 483, u 484, u 485, u 486, u 487, u 488, u 489, u 490, u 491, u 492, u 493, u 494, u 495, u 496, u 497, u 498, u 499, u 500, u 501, u 502, u 503, u 504, u 505, u 506, u 507, u 508, u 509, u 510, u 511, u 512, u 513, u 514, u 515, u 516, u 517, u 518, u 519, u 520, u 521, u 522, u 523, u 524, u 525, u 526, u 527, u 528, u 529, u 530, u 531, u 532, u 533, u 534, u 535, u 536, u 537, u 538, u 539, u 540, u 541, u 542, u 543, u 544, u 545, u 546, u 547, u 548, u 549, u 550, u 551, u 552, u 553, u 554, u 555, u 556, u 557, u 558]
theorem list_range {l : List Value} {n : Nat} (h : l.length = n) : l = (List.range n).map fun i => l.getD i undef := by
  refine List.ext_getElem? fun i => ?_
  rw [List.getElem?_map]
  rcases Nat.lt_or_ge i n with hi | hi
  · rw [List.getElem?_range hi, List.getElem?_eq_getElem (by omega)]
    simp [List.getD_eq_getElem?_getD, List.getElem?_eq_getElem (show i < l.length by omega)]
  · rw [List.getElem?_eq_none (by omega), List.getElem?_eq_none (by simpa using hi)]
    rfl
set_option maxRecDepth 100000 in
theorem frame11_range (f : Nat → Value) : frame11 f (f 0) (f 1) (f 5) (f 7) (f 9) (f 10) (f 12) (f 13) (f 14) = ((List.range 559).map f).toArray := by kernel_rfl
theorem frame11_of {T : Array Value} (h : T.size = 559) : T = frame11 (fun n => T.toList.getD n undef) (T.toList.getD 0 undef) (T.toList.getD 1 undef) (T.toList.getD 5 undef) (T.toList.getD 7 undef) (T.toList.getD 9 undef) (T.toList.getD 10 undef) (T.toList.getD 12 undef) (T.toList.getD 13 undef) (T.toList.getD 14 undef) := by
  rw [frame11_range (fun n => T.toList.getD n undef), ← list_range (by simpa using h)]
theorem frame11_ex {T : Array Value} {D : List Deferred} {v0 v1 v5 v7 v9 v10 v12 v13 v14 : Value} (h : T.size = 559) (h0 : T.toList.getD 0 undef = v0) (h1 : T.toList.getD 1 undef = v1) (h5 : T.toList.getD 5 undef = v5) (h7 : T.toList.getD 7 undef = v7) (h9 : T.toList.getD 9 undef = v9) (h10 : T.toList.getD 10 undef = v10) (h12 : T.toList.getD 12 undef = v12) (h13 : T.toList.getD 13 undef = v13) (h14 : T.toList.getD 14 undef = v14) : ∃ u, (⟨T, D⟩ : Act) = ⟨frame11 u v0 v1 v5 v7 v9 v10 v12 v13 v14, D⟩ := by
  subst h0 h1 h5 h7 h9 h10 h12 h13 h14
  exact ⟨_, congrArg (Act.mk · D) (frame11_of h)⟩
theorem meas11 {nl j : Nat} {A B : Value} (hA : A = .int .i64 ((j + 1 : Nat) : Int)) (hB : B = .int .i64 (j : Int)) (hj : j < nl) : nl - (intOf A).toNat < nl - (intOf B).toNat := by
  subst hA hB
  simp only [intOf, Int.toNat_natCast]
  omega
structure St (w0 w : World) (g gd m N : Nat) (K : KD) (B bm bo : Nat) (oc : Array Value) (h : List ByteArray) (Hc : List Int) (sy : Int) (x : Nat) (vh vo vu vw : Value) (s : DocS) (Q : List Nat) (Ms : List MK) (v : Value) : Prop where
  dq : DQ w0 w g gd m N K (bo :: Q) Ms
  sd : Side w B bm Q x vh vo vu vw s
  md : MdOk w B bm N sy h Hc Q (docQ x vh vo vu vw) Ms v
  op : Blk w bo 48 oc
  boQ : bo ∉ Q
  low : w0.heap.size ≤ B
section
variable {w0 w w' w1 : World} {g gd m N B bm bo x ob n c : Nat} {K : KD} {oc : Array Value} {h : List ByteArray} {Hc : List Int} {sy : Int} {s : DocS} {vh vo vu vw v v' : Value} {Q : List Nat} {Ms : List MK} {l : List Int}
theorem St.marks (t : St w0 w g gd m N K B bm bo oc h Hc sy x vh vo vu vw s Q Ms v) : ∀ M ∈ Ms, ∃ st sy F H, M = .mark st sy F H := t.md.marks
theorem St.lt (t : St w0 w g gd m N K B bm bo oc h Hc sy x vh vo vu vw s Q Ms v) : ∀ b ∈ Q, b < w.heap.size := fun b hb => t.dq.2 b (List.mem_cons_of_mem _ hb)
theorem St.at0 (t : St w0 w g gd m N K B bm bo oc h Hc sy x vh vo vu vw s Q Ms v) : Below w0.heap.size w0 w := by
  obtain ⟨_, _, _, h2, _⟩ := t.dq.1
  exact h2
theorem St.below (t : St w0 w g gd m N K B bm bo oc h Hc sy x vh vo vu vw s Q Ms v) (hb : Below w.heap.size w w') : St w0 w' g gd m N K B bm bo oc h Hc sy x vh vo vu vw s Q Ms v :=
  ⟨t.dq.below hb, t.sd.below t.dq (fun _ h => List.mem_cons_of_mem _ h) hb, t.md.below t.sd t.dq (fun _ h => List.mem_cons_of_mem _ h) hb, t.op.below hb t.op.lt, t.boQ, t.low⟩
theorem St.turn {g' m' : Nat} {K' : KD} (t : St w0 w g gd m N K B bm bo oc h Hc sy x vh vo vu vw s Q Ms v) (ht : DMk w0 w' g' gd m' N K' (heldOf w (bo :: Q) ++ Ms)) : St w0 w' g' gd m' N K' B bm bo oc h Hc sy x vh vo vu vw s Q Ms v := by
  obtain ⟨h1, h2, h3, h4⟩ := DQ.turn ht t.dq.2 t.sd t.md (fun _ h => List.mem_cons_of_mem _ h)
  exact ⟨h1, h2, h3, (h4 bo (by simp)).trans t.op, t.boQ, t.low⟩
theorem St.fin {cc c' : Nat} (t : St w0 w g gd m N K B bm bo oc h Hc K.syncs x vh vo vu vw s Q Ms v) (hm : m ≤ cc) (r : Go11 N K h Hc c') (hc : c' ≤ cc) (a : Mat N K h Hc s) : Pl11 w0 w gd N B bm cc (.pointer (some ⟨g, 0, none⟩)) (.pointer (some ⟨x, 0, none⟩)) v :=
  Pl11.mk t.dq hm r hc a t.sd t.md (fun _ h => List.mem_cons_of_mem _ h)
theorem DQ.put {b i : Nat} {u : Value} {cur : Array Value} {e : TypeId} (t : DQ w0 w g gd m N K Q Ms) (hb : b ∈ Q) (ho : w.heap[b]? = some (.cells cur e (0, 0))) (he : e ≠ 92 ∧ e ≠ 118) (hB : w0.heap.size ≤ b) (hMs : ∀ M ∈ Ms, ∃ st sy F H, M = .mark st sy F H) : DQ w0 (w.setCell ⟨b, i, none⟩ u) g gd m N K Q Ms :=
  t.store hb ho he hB ((Keep.refl _ _).put (.inl (by simp)) i u) hMs
theorem set_far (w : World) {b b' i : Nat} (u : Value) (hne : b' ≠ b) : (w.setCell ⟨b, i, none⟩ u).heap[b']? = w.heap[b']? := Below.heap_setCell w ⟨b, i, none⟩ u b' hne
theorem own_heap {B n : Nat} {e : TypeId} {size : Nat} {xs : List Value} {g c : Nat} (hr : w.ownsRow B e size (.slice (some ⟨g, 0, none⟩) n c) n xs) : B ≤ g ∧ ∃ cur, w.heap[g]? = some (.cells cur e (0, 0)) := by
  rcases hr.2 with ⟨hv, _⟩ | ⟨g', cap, cur, hv, k1, k2, _⟩
  · cases hv
  · injection hv with hv
    injection hv with hv
    injection hv with hv
    subst hv
    exact ⟨k1, cur, k2⟩
theorem St.on (t : St w0 w g gd m N K B bm bo oc h Hc sy x vh (.slice (some ⟨ob, 0, none⟩) n c) vu vw s Q Ms v) (hn : n = s.on.length) (j : Nat) (y : ByteArray) :
    St w0 (w.setCell ⟨ob, j, none⟩ (.string y)) g gd m N K B bm bo oc h Hc sy x vh (.slice (some ⟨ob, 0, none⟩) n c) vu vw { s with on := s.on.set j y } Q Ms v := by
  have hob : ob ∈ docQ x vh (.slice (some ⟨ob, 0, none⟩) n c) vu vw := docQ_mem.2 (.inr (.inr (.inl rfl)))
  obtain ⟨hq, hne⟩ := t.sd.sub ob hob
  have hro := t.sd.doc.on
  rw [← hn] at hro
  obtain ⟨k1, cur, k2⟩ := own_heap hro
  obtain ⟨p, hp⟩ := t.sd.cell
  have hbo : bo ≠ ob := fun e => t.boQ (e ▸ hq)
  refine ⟨t.dq.put (List.mem_cons_of_mem _ hq) k2 (by decide) (Nat.le_trans t.low k1) t.marks, ⟨t.sd.doc.putOn hn j y, t.sd.sub, t.sd.bmQ, ⟨p, (set_far w _ fun e => hne e.symm).trans hp⟩, t.sd.low⟩, t.md.move (fun b hb hd => set_far w _ fun e => hd (e ▸ hob)) t.sd.bmQ t.sd.bmD (fun _ h => h) (fun _ h => .inl h), (set_far w _ hbo).trans t.op, t.boQ, t.low⟩
theorem St.used (t : St w0 w g gd m N K B bm bo oc h Hc sy x vh vo vu vw s Q Ms v) (hb : Below w.heap.size w w1) (hBw : B ≤ w.heap.size) (hr : (v' = vu ∧ l = s.used) ∨ w1.ownsRow w.heap.size 3 1 v' l.length (intV l)) :
    ∃ Q', St w0 (w1.setCell ⟨x, 2, none⟩ v') g gd m N K B bm bo oc h Hc sy x vh vo v' vw { s with used := l } Q' Ms v := by
  have t1 := t.below hb
  have hx : x ∈ docQ x vh vo vu vw := docQ_mem.2 (.inl rfl)
  obtain ⟨hxq, hxb⟩ := t.sd.sub x hx
  obtain ⟨p, hp⟩ := t1.sd.cell
  have hbo : bo ≠ x := fun e => t.boQ (e ▸ hxq)
  have hlo : w0.heap.size ≤ x := Nat.le_trans t.low t.sd.doc.low
  rcases hr with ⟨rfl, rfl⟩ | hr
  · refine ⟨Q, t1.dq.put (List.mem_cons_of_mem _ hxq) t1.sd.doc.blk (by decide) hlo t.marks, ⟨t1.sd.doc.putUsed t1.sd.doc.used t1.sd.doc.apart2, t1.sd.sub, t1.sd.bmQ, ⟨p, (set_far w1 _ fun e => hxb e.symm).trans hp⟩, t1.sd.low⟩, t1.md.move (fun b hb hd => set_far w1 _ fun e => hd (e ▸ hx)) t1.sd.bmQ t1.sd.bmD (fun _ h => h) (fun _ h => .inl h), (set_far w1 _ hbo).trans t1.op, t.boQ, t.low⟩
  · have hnew : ∀ b, v'.ownBlock = some b → w.heap.size ≤ b ∧ b < w1.heap.size := fun b e => hr.lt b e
    have hold : ∀ b ∈ Q, b < w.heap.size := t.lt
    have hQ2 : ∀ b ∈ rowQ v' ++ Q, b ∈ bo :: (rowQ v' ++ Q) := fun _ h => List.mem_cons_of_mem _ h
    have hdq : DQ w0 w1 g gd m N K (bo :: (rowQ v' ++ Q)) Ms := t.dq.more hb fun b hm => by
      rcases List.mem_cons.1 hm with rfl | hm
      · exact .inl (by simp)
      · rcases List.mem_append.1 hm with hm | hm
        · exact .inr (hnew b (rowQ_mem.1 hm))
        · exact .inl (List.mem_cons_of_mem _ hm)
    have hxq2 : x ∈ bo :: (rowQ v' ++ Q) := List.mem_cons_of_mem _ (List.mem_append_right _ hxq)
    have hdocQ : ∀ b ∈ docQ x vh vo v' vw, v'.ownBlock = some b ∨ b ∈ docQ x vh vo vu vw := fun b hm => by
      rcases docQ_mem.1 hm with e | e | e | e | e
      · exact .inr (docQ_mem.2 (.inl e))
      · exact .inr (docQ_mem.2 (.inr (.inl e)))
      · exact .inr (docQ_mem.2 (.inr (.inr (.inl e))))
      · exact .inl e
      · exact .inr (docQ_mem.2 (.inr (.inr (.inr (.inr e)))))
    have hap : ∀ b, v'.ownBlock = some b → vw.ownBlock ≠ some b := fun b e e2 => by
      have h1 := (hnew b e).1
      have h2 := hold b (t.sd.sub b (docQ_mem.2 (.inr (.inr (.inr (.inr e2)))))).1
      omega
    refine ⟨rowQ v' ++ Q, hdq.put hxq2 t1.sd.doc.blk (by decide) hlo t.marks, ⟨t1.sd.doc.putUsed (row_lower hr hBw) hap, fun b hm => ?_, List.mem_append_right _ t1.sd.bmQ, ⟨p, (set_far w1 _ fun e => hxb e.symm).trans hp⟩, t1.sd.low⟩, t1.md.move (fun b hb hd => set_far w1 _ fun e => hd (e ▸ hx)) t1.sd.bmQ t1.sd.bmD (fun _ h => List.mem_append_right _ h) (fun b hm => ?_), (set_far w1 _ hbo).trans t1.op, fun hm => ?_, t.low⟩
    · rcases hdocQ b hm with e | e
      · refine ⟨List.mem_append_left _ (rowQ_mem.2 e), fun eb => ?_⟩
        have h1 := (hnew b e).1
        have h2 := hold bm t.sd.bmQ
        omega
      · exact ⟨List.mem_append_right _ (t.sd.sub b e).1, (t.sd.sub b e).2⟩
    · rcases hdocQ b hm with e | e
      · refine .inr fun hq => ?_
        have h1 := (hnew b e).1
        have h2 := hold b hq
        omega
      · exact .inl e
    · rcases List.mem_append.1 hm with hm | hm
      · have h1 := (hnew bo (rowQ_mem.1 hm)).1
        have h2 := t.dq.2 bo (by simp)
        omega
      · exact t.boQ hm
theorem St.mark {w3 w5 : World} {st y : Nat} {yh yo yu yw : Value} {cc c' : Nat} (t : St w0 w g gd m N K B bm bo oc h Hc K.syncs x vh vo vu vw s Q Ms v) (ht : DMk w0 w3 g gd m N K (.mark st K.syncs K.F K.H :: (heldOf w (bo :: Q) ++ Ms))) (hBw : B ≤ w3.heap.size)
    (hy : DocIs w5 w3.heap.size y yh yo yu yw s) (hb : Below w3.heap.size w3 w5) (hm : m ≤ cc) (r : Go11 N K h Hc c') (hc : c' ≤ cc) (a : Mat N K h Hc s) :
    Pl11 w0 (w5.setCell ⟨bm, 0, none⟩ (.pointer (some ⟨st, 0, none⟩))) gd N B bm cc (.pointer (some ⟨g, 0, none⟩)) (.pointer (some ⟨x, 0, none⟩)) (.pointer (some ⟨y, 0, none⟩)) := by
  obtain ⟨hq3, hk3⟩ := DQ.of_mark ht t.dq.2
  have sd3 := t.sd.move fun b hb => hk3 b (List.mem_cons_of_mem _ hb)
  have sd5 := sd3.below hq3 (fun _ h => List.mem_cons_of_mem _ h) hb
  have hlt3 : ∀ b ∈ Q, b < w3.heap.size := fun b hb => hq3.2 b (List.mem_cons_of_mem _ hb)
  have hny : ∀ b ∈ docQ y yh yo yu yw, w3.heap.size ≤ b ∧ b < w5.heap.size := hy.range
  have hq5 : DQ w0 w5 g gd m N K (docQ y yh yo yu yw ++ Q) [.mark st K.syncs K.F K.H] := (hq3.more hb (Q' := docQ y yh yo yu yw ++ Q) fun b hm => by
    rcases List.mem_append.1 hm with hm | hm
    · exact .inr (hny b hm)
    · exact .inl (List.mem_cons_of_mem _ hm)).less (fun _ h => h) (fun M hM => by rw [List.mem_singleton.1 hM]; simp)
  obtain ⟨p, hp⟩ := sd5.cell
  have hbm : bm ∈ docQ y yh yo yu yw ++ Q := List.mem_append_right _ sd5.bmQ
  have hbb : ∀ b ∈ docQ y yh yo yu yw, b ≠ bm := fun b hb e => by
    have h1 := (hny b hb).1
    have h2 := hlt3 bm sd5.bmQ
    omega
  have hblk : Blk (w5.setCell ⟨bm, 0, none⟩ (.pointer (some ⟨st, 0, none⟩))) bm 46 #[.pointer (some ⟨st, 0, none⟩)] := hp.put 0 _
  have hq6 : DQ w0 (w5.setCell ⟨bm, 0, none⟩ (.pointer (some ⟨st, 0, none⟩))) g gd m N K (docQ y yh yo yu yw ++ Q) [.mark st K.syncs K.F K.H] := hq5.put hbm hp (by decide) (Nat.le_trans t.low t.sd.low) fun M hM => ⟨_, _, _, _, List.mem_singleton.1 hM⟩
  refine Pl11.mk hq6 hm r hc a ⟨sd5.doc.kept fun b hb => set_far w5 _ (sd5.sub b hb).2, fun b hb => ⟨List.mem_append_right _ (sd5.sub b hb).1, (sd5.sub b hb).2⟩, hbm, ⟨_, hblk⟩, sd5.low⟩ (.inr ⟨y, yh, yo, yu, yw, s, st, K.F, K.H, rfl, (hy.below' hBw).kept fun b hb => set_far w5 _ (hbb b hb), fun b hb => ⟨List.mem_append_left _ hb, fun hd => ?_, hbb b hb⟩, rfl, r.mark, a.f, hblk⟩) (fun _ h => h)
  have h1 := (hny b hb).1
  have h2 := hlt3 b (sd5.sub b hd).1
  omega
theorem St.back {w5 : World} {z : Nat} {zh zo zu zw : Value} {sm : DocS} {F : Int → ByteArray} {H : List Int} {cc c' : Nat} (t : St w0 w g gd m N (backK K F H) B bm bo oc h Hc K.syncs x vh vo vu vw s Q Ms v) (hBw : B ≤ w.heap.size)
    (hz : DocIs w5 w.heap.size z zh zo zu zw sm) (hb : Below w.heap.size w w5) (hm : m ≤ cc) (r : Go11 N K h Hc c') (hc : c' ≤ cc) (hs : Stay11 N F H) (a : MatF N F H h Hc sm) :
    Pl11 w0 w5 gd N B bm cc (.pointer (some ⟨g, 0, none⟩)) (.pointer (some ⟨z, 0, none⟩)) v := by
  have t5 := t.below hb
  have hnz : ∀ b ∈ docQ z zh zo zu zw, w.heap.size ≤ b ∧ b < w5.heap.size := hz.range
  have hq5 : DQ w0 w5 g gd m N (backK K F H) (docQ z zh zo zu zw ++ Q) Ms := t.dq.more hb fun b hm => by
    rcases List.mem_append.1 hm with hm | hm
    · exact .inr (hnz b hm)
    · exact .inl (List.mem_cons_of_mem _ hm)
  have hbb : ∀ b ∈ docQ z zh zo zu zw, b ≠ bm := fun b hb e => by
    have h1 := (hnz b hb).1
    have h2 := t.lt bm t.sd.bmQ
    omega
  refine Pl11.mk hq5 hm (r.back hs) hc (a.mat K) ⟨hz.below' hBw, fun b hb => ⟨List.mem_append_left _ hb, hbb b hb⟩, List.mem_append_right _ t5.sd.bmQ, t5.sd.cell, t5.sd.low⟩ (t5.md.move (fun _ _ _ => rfl) t5.sd.bmQ t5.sd.bmD (fun _ h => List.mem_append_right _ h) fun b hd => .inr fun hq => ?_) (fun _ h => h)
  have h1 := (hnz b hd).1
  have h2 := t.lt b hq
  omega
theorem St.big (t : St w0 w g gd m N K B bm bo oc h Hc sy x vh vo vu vw s Q Ms v) : B ≤ w.heap.size := Nat.le_of_lt (Nat.lt_of_le_of_lt t.sd.low (t.lt bm t.sd.bmQ))
theorem St.off (t : St w0 w g gd m N K B bm bo oc h Hc sy x vh vo vu vw s Q Ms v) : DOff w0 w gd K.S (heldOf w (bo :: Q)) := by
  have h1 := (t.dq.less (Q' := bo :: Q) (Ms' := []) (fun _ h => h) (fun _ h => by cases h)).1
  rw [List.append_nil] at h1
  refine h1.off fun M hM => ?_
  obtain ⟨b, o, _, _, e⟩ := heldOf_get hM
  exact ⟨b, o, e⟩
theorem St.anew {g' m' : Nat} {K' : KD} {sy' : Int} {h' : List ByteArray} {Hc' : List Int} (t : St w0 w g gd m N K B bm bo oc h Hc sy x vh vo vu vw s Q Ms v) (ht : DMk w0 w' g' gd m' N K' (heldOf w (bo :: Q))) : St w0 w' g' gd m' N K' B bm bo oc h' Hc' sy' x vh vo vu vw s Q [] (.pointer none) := by
  have ht' : DMk w0 w' g' gd m' N K' (heldOf w (bo :: Q) ++ []) := by rw [List.append_nil]; exact ht
  obtain ⟨h1, h2⟩ := DQ.of ht' t.dq.2
  exact ⟨h1, t.sd.move fun b hb => h2 b (List.mem_cons_of_mem _ hb), .inl ⟨rfl, rfl⟩, (h2 bo (by simp)).trans t.op, t.boQ, t.low⟩
theorem St.redoc {w5 : World} {z : Nat} {zh zo zu zw : Value} {s' : DocS} {h' : List ByteArray} {Hc' : List Int} (t : St w0 w g gd m N K B bm bo oc h Hc sy x vh vo vu vw s Q Ms v) (hz : DocIs w5 w.heap.size z zh zo zu zw s') (hb : Below w.heap.size w w5) {sy' : Int} :
    ∃ Q', St w0 w5 g gd m N K B bm bo oc h' Hc' sy' z zh zo zu zw s' Q' [] (.pointer none) := by
  have t5 := t.below hb
  have hnz : ∀ b ∈ docQ z zh zo zu zw, w.heap.size ≤ b ∧ b < w5.heap.size := hz.range
  have hq5 : DQ w0 w5 g gd m N K (bo :: (docQ z zh zo zu zw ++ Q)) [] := (t.dq.more hb (Q' := bo :: (docQ z zh zo zu zw ++ Q)) fun b hm => by
    rcases List.mem_cons.1 hm with rfl | hm
    · exact .inl (by simp)
    · rcases List.mem_append.1 hm with hm | hm
      · exact .inr (hnz b hm)
      · exact .inl (List.mem_cons_of_mem _ hm)).less (fun _ h => h) (fun _ h => by cases h)
  refine ⟨docQ z zh zo zu zw ++ Q, hq5, ⟨hz.below' t.big, fun b hb => ⟨List.mem_append_left _ hb, fun e => ?_⟩, List.mem_append_right _ t5.sd.bmQ, t5.sd.cell, t5.sd.low⟩, .inl ⟨rfl, rfl⟩, t5.op, fun hm => ?_, t.low⟩
  · have h1 := (hnz b hb).1
    have h2 := t.lt bm t.sd.bmQ
    omega
  · rcases List.mem_append.1 hm with hm | hm
    · have h1 := (hnz bo hm).1
      have h2 := t.dq.2 bo (by simp)
      omega
    · exact t.boQ hm
theorem St.is {c' : Nat} (t : St w0 w g gd m N K B bm bo oc h Hc sy x vh vo vu vw s Q Ms v) (hm : m < 1000000) (r : Go11 N K h Hc c') (l1 : s.home.length = N - 111) (l2 : s.on.length = N - 111) (l3 : s.used.length ≤ 100000) (l4 : s.was.length ≤ 100000) :
    Calls Tryz.prog 29 #[.pointer (some ⟨g, 0, none⟩), .pointer (some ⟨x, 0, none⟩)] w fun e w' => e = .returned (.bool (isD K s (N - 111))) ∧ Below w.heap.size w w' := by
  have hd := r.ok.dim
  obtain ⟨P, k1, -, -, -⟩ := t.dq.1
  exact is11_any (n := N - 111) k1 r.ok hm r.bad r.up r.small r.fsize (fun i hi => by rw [r.get hi]) rfl ⟨_, _, _, _, t.sd.doc⟩ l1 l2 l3 l4 (by have := r.hok.few; have := r.ok.dim; omega)
theorem DocIs.far {b i : Nat} {u : Value} {x' : Nat} {s' : DocS} {vh' vo' vu' vw' : Value} {B' : Nat} (d : DocIs w B' x' vh' vo' vu' vw' s') (hb : ∀ b' ∈ docQ x' vh' vo' vu' vw', b' ≠ b) : DocIs (w.setCell ⟨b, i, none⟩ u) B' x' vh' vo' vu' vw' s' := d.kept fun b' h => set_far w u (hb b' h)
def blank (l : List ByteArray) : Nat → List ByteArray
  | 0 => l
  | i + 1 => (blank l i).set i .empty
theorem blank_len (l : List ByteArray) (i : Nat) : (blank l i).length = l.length := by
  induction i with
  | zero => rfl
  | succ i ih => show ((blank l i).set i .empty).length = _; rw [List.length_set, ih]
theorem blank_get (l : List ByteArray) (i t : Nat) (hi : i ≤ l.length) : (blank l i)[t]? = if t < i then some .empty else l[t]? := by
  induction i with
  | zero => rw [if_neg (by omega)]; rfl
  | succ i ih =>
    show ((blank l i).set i .empty)[t]? = _
    rw [List.getElem?_set, blank_len]
    by_cases e : i = t
    · subst e
      rw [if_pos rfl, if_pos (by omega), if_pos (by omega)]
    · rw [if_neg e, ih (by omega)]
      by_cases q : t < i
      · rw [if_pos q, if_pos (by omega)]
      · rw [if_neg q, if_neg (by omega)]
theorem blank_all (l : List ByteArray) : blank l l.length = List.replicate l.length .empty := by
  refine List.ext_getElem? fun t => ?_
  rw [blank_get l l.length t (Nat.le_refl _), List.getElem?_replicate]
  by_cases q : t < l.length
  · rw [if_pos q, if_pos q]
  · rw [if_neg q, if_neg q, List.getElem?_eq_none (by omega)]
end
theorem first_gap (l : List Int) : ∃ k, k ≤ l.length ∧ (∀ i : Nat, i < k → l[i]? = some (i : Int)) ∧ l[k]? ≠ some (k : Int) := by
  have go : ∀ d k : Nat, l.length - k = d → k ≤ l.length → (∀ i : Nat, i < k → l[i]? = some (i : Int)) → ∃ k, k ≤ l.length ∧ (∀ i : Nat, i < k → l[i]? = some (i : Int)) ∧ l[k]? ≠ some (k : Int) := by
    intro d
    induction d with
    | zero =>
      intro k hd hk ha
      refine ⟨k, hk, ha, ?_⟩
      rw [List.getElem?_eq_none (by omega)]
      intro h
      cases h
    | succ d ih =>
      intro k hd hk ha
      by_cases h : l[k]? = some (k : Int)
      · refine ih (k + 1) (by omega) (by omega) fun i hi => ?_
        by_cases e : i = k
        · subst e; exact h
        · exact ha i (by omega)
      · exact ⟨k, hk, ha, h⟩
  exact go _ 0 rfl (Nat.zero_le _) (fun i hi => by omega)
def okTo (H l : List Int) (t : Nat) : Prop := ∀ j, j < t → ¬ badAt H l j
theorem okTo_zero (H l : List Int) : okTo H l 0 := fun j hj => by omega
theorem badAt_lt {H l : List Int} {j : Nat} (h : badAt H l j) : j < l.length := by
  obtain ⟨x, hx, _⟩ := h
  rcases Nat.lt_or_ge j l.length with q | q
  · exact q
  · rw [List.getElem?_eq_none q] at hx; cases hx
theorem okTo_all {H l : List Int} : okTo H l l.length ↔ ¬ ∃ j, badAt H l j := ⟨fun h ⟨j, hj⟩ => h j (badAt_lt hj) hj, fun h j _ hj => h ⟨j, hj⟩⟩
theorem okTo_succ {H l : List Int} {t : Nat} : okTo H l (t + 1) ↔ okTo H l t ∧ ¬ badAt H l t := by
  constructor
  · exact fun h => ⟨fun j hj => h j (by omega), h t (by omega)⟩
  · rintro ⟨h1, h2⟩ j hj
    by_cases e : j = t
    · subst e; exact h2
    · exact h1 j (by omega)
theorem badAt_at {H l : List Int} {t : Nat} {y : Int} (hy : l[t]? = some y) : badAt H l t ↔ (y < 2 ∨ y ∉ H ∨ y ∈ l.take t) := by
  constructor
  · rintro ⟨z, hz, h⟩
    rw [hy] at hz
    injection hz with hz
    subst hz
    exact h
  · exact fun h => ⟨y, hy, h⟩
def wipe (l : List Int) (o : List ByteArray) : Nat → List ByteArray
  | 0 => o
  | t + 1 => (wipe l o t).set (l.getD t 0).toNat .empty
theorem wipe_len (l : List Int) (o : List ByteArray) (t : Nat) : (wipe l o t).length = o.length := by
  induction t with
  | zero => rfl
  | succ t ih => show ((wipe l o t).set _ _).length = _; rw [List.length_set]; exact ih
theorem wipe_get (l : List Int) (o : List ByteArray) (h0 : ∀ x ∈ l, 0 ≤ x) (hl : ∀ x ∈ l, x < (o.length : Int)) : ∀ t, t ≤ l.length → ∀ u : Nat, (wipe l o t).getD u .empty = if (u : Int) ∈ l.take t then .empty else o.getD u .empty := by
  intro t
  induction t with
  | zero => intro _ u; simp [wipe]
  | succ t ih =>
    intro ht u
    have hy : l[t]? = some (l.getD t 0) := by
      rw [List.getD_eq_getElem?_getD, List.getElem?_eq_getElem (show t < l.length by omega)]
      rfl
    obtain ⟨y, hY⟩ : ∃ y, y = l.getD t 0 := ⟨_, rfl⟩
    have hm : y ∈ l := by rw [hY]; exact List.mem_of_getElem? hy
    have h1 := h0 y hm
    have h2 := hl y hm
    show ((wipe l o t).set (l.getD t 0).toNat .empty).getD u .empty = _
    rw [← hY, getD_set (by rw [wipe_len]; omega), ih (by omega) u, List.take_add_one, hy, ← hY]
    simp only [List.mem_append, Option.toList, List.mem_singleton]
    by_cases e : u = y.toNat
    · rw [if_pos e, if_pos (.inr (by omega))]
    · rw [if_neg e]
      by_cases q : (u : Int) ∈ l.take t
      · rw [if_pos q, if_pos (.inl q)]
      · rw [if_neg q, if_neg (by rintro (z | z); exact q z; omega)]
def dropT (H l : List Int) (t : Nat) : List Int := dropF H (l.take t)
theorem dropT_succ {H l : List Int} {t : Nat} {y : Int} (hy : l[t]? = some y) : dropT H l (t + 1) = dropL y (dropT H l t) := by
  unfold dropT dropF
  rw [List.take_add_one, hy]
  simp [List.foldl_append]
theorem dropF_len (l : List Int) : ∀ H : List Int, (dropF H l).length ≤ H.length := by
  induction l with
  | nil => intro H; exact Nat.le_refl _
  | cons y r ih => intro H; exact Nat.le_trans (ih (dropL y H)) (List.length_filter_le _ _)
theorem dropT_len (H l : List Int) (t : Nat) : (dropT H l t).length ≤ H.length := dropF_len _ _
theorem dropT_all (H l : List Int) : dropT H l l.length = dropF H l := by unfold dropT; rw [List.take_length]
def putT (l : List Int) (t : Nat) : List Int := putF (l.take t)
theorem putT_zero (l : List Int) : putT l 0 = [0, 1] := rfl
theorem putT_succ {l : List Int} {t : Nat} {y : Int} (hy : l[t]? = some y) : putT l (t + 1) = putL y (putT l t) := by
  unfold putT putF
  rw [List.take_add_one, hy]
  simp [List.foldl_append]
theorem putT_all (l : List Int) : putT l l.length = putF l := by unfold putT; rw [List.take_length]
theorem putT_len (l : List Int) : ∀ t, t ≤ l.length → (putT l t).length ≤ 2 + t := by
  intro t
  induction t with
  | zero => intro _; rw [putT_zero]; simp
  | succ t ih =>
    intro ht
    rw [putT_succ (List.getElem?_eq_getElem (show t < l.length by omega))]
    have h1 := putL_le l[t] (putT l t)
    have h2 := ih (by omega)
    omega
def sift (H : List Int) (o : List ByteArray) : Nat → List ByteArray
  | 0 => o
  | t + 1 => if (t : Int) ∈ H then sift H o t else (sift H o t).set t .empty
theorem sift_len (H : List Int) (o : List ByteArray) (t : Nat) : (sift H o t).length = o.length := by
  induction t with
  | zero => rfl
  | succ t ih =>
    unfold sift
    split
    · exact ih
    · rw [List.length_set]; exact ih
theorem sift_yes {H : List Int} {o : List ByteArray} {t : Nat} (h : (t : Int) ∈ H) : sift H o (t + 1) = sift H o t := if_pos h
theorem sift_no {H : List Int} {o : List ByteArray} {t : Nat} (h : (t : Int) ∉ H) : sift H o (t + 1) = (sift H o t).set t .empty := if_neg h
theorem sift_get (H : List Int) (o : List ByteArray) : ∀ t, t ≤ o.length → ∀ u : Nat, (sift H o t).getD u .empty = if u < t ∧ (u : Int) ∉ H then .empty else o.getD u .empty := by
  intro t
  induction t with
  | zero => intro _ u; rw [if_neg (by omega)]; rfl
  | succ t ih =>
    intro ht u
    by_cases h : (t : Int) ∈ H
    · rw [sift_yes h, ih (by omega) u]
      by_cases e : u = t
      · subst e
        rw [if_neg (fun z => z.2 h), if_neg (fun z => z.2 h)]
      · by_cases q : u < t ∧ (u : Int) ∉ H
        · rw [if_pos q, if_pos ⟨by omega, q.2⟩]
        · rw [if_neg q, if_neg (fun z => q ⟨by omega, z.2⟩)]
    · rw [sift_no h, getD_set (by rw [sift_len]; omega), ih (by omega) u]
      by_cases e : u = t
      · subst e
        rw [if_pos rfl, if_pos ⟨by omega, h⟩]
      · rw [if_neg e]
        by_cases q : u < t ∧ (u : Int) ∉ H
        · rw [if_pos q, if_pos ⟨by omega, q.2⟩]
        · rw [if_neg q, if_neg (fun z => q ⟨by omega, z.2⟩)]
theorem sift_all (H : List Int) (o : List ByteArray) (u : Nat) (hu : u < o.length) : (sift H o o.length).getD u .empty = if (u : Int) ∈ H then o.getD u .empty else .empty := by
  rw [sift_get H o _ (Nat.le_refl _) u]
  by_cases q : (u : Int) ∈ H
  · rw [if_pos q, if_neg (fun z => z.2 q)]
  · rw [if_neg q, if_pos ⟨hu, q⟩]
theorem rangeBad_take {n : Nat} {l : List Int} {t : Nat} {y : Int} (hy : l[t]? = some y) : rangeBad n (l.take (t + 1)) ↔ rangeBad n (l.take t) ∨ y < 0 ∨ (n : Int) ≤ y := by
  unfold rangeBad
  rw [List.take_add_one, hy]
  simp only [List.mem_append, Option.toList, List.mem_singleton]
  constructor
  · rintro ⟨x, hx | rfl, hb⟩
    · exact .inl ⟨x, hx, hb⟩
    · exact .inr hb
  · rintro (⟨x, hx, hb⟩ | hb)
    · exact ⟨x, .inl hx, hb⟩
    · exact ⟨y, .inr rfl, hb⟩
theorem wpOps_storedS {ops : Array Oper} {Q : Exit → Act → World → Prop} {w : World} {T : Array Value} {ds : List Deferred} {f : Nat → Value} {lo k a b t1 g i n1 c1 n2 c2 : Nat} {p1 : String} {f1 : Array Edge} {q1 q2 : Option Addr}
    (h : ops[k]? = some { dst := none, op := .store 39 (.tmp (lo + a)) (.tmp (lo + b)), type := t1, pos := p1, after := f1, guard := none })
    (hT : lo + k ≤ T.size) (ha : a < k) (hb : b < k) (ea : f a = .pointer (some ⟨g, i, none⟩)) (eb : f b = .slice q1 n1 c1) (hc : w.cell? ⟨g, i, none⟩ = some (.slice q2 n2 c2)) (hz : w.frozen? ⟨g, i, none⟩ = false)
    (hQ : Q .normal ⟨putAll lo k f T, ds⟩ (w.setCell ⟨g, i, none⟩ (.slice q1 n1 c1))) :
    wpOps Tryz.prog ops Q (List.range' k 1) ⟨putAll lo k f T, ds⟩ w := by
  have s0 := (putAll_at (f := f) hT ha).trans ea
  have s1 := (putAll_at (f := f) hT hb).trans eb
  obtain ⟨y, hy⟩ : ∃ y, y = putAll lo k f T := ⟨_, rfl⟩
  rw [← hy] at s0 s1 hQ ⊢
  clear hy
  show wpOps Tryz.prog ops Q [k] _ w
  rw [wpOps_cons]
  refine wpOp_skip (w' := w.setCell ⟨g, i, none⟩ (.slice q1 n1 c1)) h rfl (by go_simp) ?_
  exact hQ
theorem wpOps_storedC {ops : Array Oper} {Q : Exit → Act → World → Prop} {w : World} {T : Array Value} {ds : List Deferred} {f : Nat → Value} {lo k a t1 g i : Nat} {p1 : String} {f1 : Array Edge} {u : ByteArray}
    (h : ops[k]? = some { dst := none, op := .store 9 (.tmp (lo + a)) (.const (.string ⟨#[]⟩)), type := t1, pos := p1, after := f1, guard := none })
    (hT : lo + k ≤ T.size) (ha : a < k) (ea : f a = .pointer (some ⟨g, i, none⟩)) (hc : w.cell? ⟨g, i, none⟩ = some (.string u)) (hz : w.frozen? ⟨g, i, none⟩ = false)
    (hQ : Q .normal ⟨putAll lo k f T, ds⟩ (w.setCell ⟨g, i, none⟩ (.string ⟨#[]⟩))) :
    wpOps Tryz.prog ops Q (List.range' k 1) ⟨putAll lo k f T, ds⟩ w := by
  have s0 := (putAll_at (f := f) hT ha).trans ea
  obtain ⟨y, hy⟩ : ∃ y, y = putAll lo k f T := ⟨_, rfl⟩
  rw [← hy] at s0 hQ ⊢
  clear hy
  show wpOps Tryz.prog ops Q [k] _ w
  rw [wpOps_cons]
  refine wpOp_skip (w' := w.setCell ⟨g, i, none⟩ (.string ⟨#[]⟩)) h rfl (by go_simp) ?_
  exact hQ
section
variable {w0 w w' w1 : World} {g gd m N B bm bo x gl cap : Nat} {K K' : KD} {oc : Array Value} {h : List ByteArray} {Hc : List Int} {sy : Int} {s : DocS} {vh vo vu vw v : Value} {Q : List Nat} {Ms : List MK} {l : List Int}
theorem St.lent (t : St w0 w1 g gd m N K B bm bo oc h Hc sy x vh vo vu vw s Q Ms v) (hb : Below w1.heap.size w1 w) (h1 : w1.heap.size ≤ gl) (h2 : gl < w.heap.size) : DQ w0 w g gd m N K (gl :: bo :: Q) Ms :=
  t.dq.more hb fun b hm => by
    rcases List.mem_cons.1 hm with rfl | hm
    · exact .inr ⟨h1, h2⟩
    · exact .inl hm
theorem St.turnL {g' m' : Nat} (t : St w0 w1 g gd m N K B bm bo oc h Hc sy x vh vo vu vw s Q Ms v) (hb : Below w1.heap.size w1 w) (h1 : w1.heap.size ≤ gl) (h2 : gl < w.heap.size) (ht : DMk w0 w' g' gd m' N K' (heldOf w (gl :: bo :: Q) ++ Ms)) : St w0 w' g' gd m' N K' B bm bo oc h Hc sy x vh vo vu vw s Q Ms v ∧ w'.heap[gl]? = w.heap[gl]? ∧ gl < w'.heap.size := by
  have tb := t.below hb
  obtain ⟨a1, a2, a3, a4⟩ := DQ.turn ht (t.lent hb h1 h2).2 tb.sd tb.md (fun _ h => List.mem_cons_of_mem _ (List.mem_cons_of_mem _ h))
  exact ⟨⟨a1.less (fun _ h => List.mem_cons_of_mem _ h) (fun _ h => h), a2, a3, (a4 bo (by simp)).trans tb.op, t.boQ, t.low⟩, a4 gl (by simp), a1.2 gl (by simp)⟩
theorem LentK.same {B0 : Nat} {xs : List Int} (hL : LentK w B0 gl cap xs) (hk : w'.heap[gl]? = w.heap[gl]?) (hs : gl < w'.heap.size) : LentK w' B0 gl cap xs := by
  obtain ⟨h0, h1, h2, h3, h4⟩ := hL
  refine ⟨h0, hs, h2, h3, fun j y hy => ?_⟩
  have := h4 j y hy
  unfold World.cell? at this ⊢
  rw [hk]
  exact this
end
end Go.Proofs.YtiagofgcinlnhaaGreatDoor
