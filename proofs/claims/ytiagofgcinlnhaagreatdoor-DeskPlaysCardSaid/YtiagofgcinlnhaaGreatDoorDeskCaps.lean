/-
  A list of acts that came in: no act's list is longer than its room. No statement is proved here.
-/
import Derived.Test.YtiagofgcinlnhaaGreatDoorIntsView
import Derived.Deep.SlicePairs
import Derived.Deep.Slices
import Derived.Lib.SmallJoins
import Derived.Lib.AppendStr
import Derived.Deep.RegionHeld3
import Derived.Deep.RegionWith
namespace Go.Proofs.YtiagofgcinlnhaaGreatDoor
open Go.RowKit
inductive MK where
  | mark (st : Nat) (sy : Int) (F : Int → ByteArray) (H : List Int)
  | held (b : Nat) (o : Obj)
def MarkOn (w : World) (P : List Nat) (g m n : Nat) : MK → Prop
  | .mark st sy F H => ∃ mb rb, st ∉ P ∧ mb ∉ P ∧ rb ∉ P ∧ Blk w st 92 #[.pointer (some ⟨g, 0, none⟩), .int .i64 sy, .map (some mb), .pointer (some ⟨rb, 0, none⟩)] ∧ MapW w mb m F ∧ RoomAt w rb n H
  | .held b o => b ∉ P ∧ w.heap[b]? = some o
theorem heap_lt {w : World} {b : Nat} {o : Obj} (h : w.heap[b]? = some o) : b < w.heap.size := (Array.getElem?_eq_some_iff.1 h).1
theorem MarkOn.turn {w w' : World} {P P' : List Nat} {g m m' n : Nat} {M : MK} (h : MarkOn w P g m n M) (hP : ∀ b ∈ P', b ∈ P ∨ w.heap.size ≤ b) (hk : Keep P w w') (hm : m ≤ m') : MarkOn w' P' g m' n M := by
  have f : ∀ b, b ∉ P → b < w.heap.size → b ∉ P' := fun b hb hl hb' => by
    rcases hP b hb' with h | h
    · exact hb h
    · omega
  cases M with
  | mark st sy F H =>
    obtain ⟨mb, rb, h1, h2, h3, h4, h5, h6⟩ := h
    exact ⟨mb, rb, f _ h1 h4.lt, f _ h2 h5.lt, f _ h3 h6.lt, h4.keep hk h1, (h5.keep hk h2).mono hm, h6.keep hk h3⟩
  | held b o =>
    obtain ⟨h1, h2⟩ := h
    exact ⟨f _ h1 (heap_lt h2), (hk.block b (heap_lt h2) h1).trans h2⟩
theorem MarkOn.at {w : World} {P : List Nat} {g m n st : Nat} {sy : Int} {F : Int → ByteArray} {H : List Int} (h : MarkOn w P g m n (.mark st sy F H)) : MarkAt w 0 st g m n sy F H := by
  obtain ⟨mb, rb, h1, h2, h3, h4, h5, h6⟩ := h
  exact ⟨mb, rb, Nat.zero_le _, Nat.zero_le _, Nat.zero_le _, h4, h5, h6⟩
def DMk (w0 w : World) (g gd m N : Nat) (K : KD) (Ms : List MK) : Prop :=
  ∃ P, DeskAt w P g gd m K ∧ (∀ b ∈ P, w0.heap.size ≤ b) ∧ Below w0.heap.size w0 w ∧ ∀ M ∈ Ms, MarkOn w P g m (N - 111) M
section
variable {w0 w w' : World} {g gd m N : Nat} {K K' : KD} {h : List ByteArray} {c : Nat} {Ms : List MK} {P : List Nat}
theorem DMk.of (s : DSt w0 w g gd m K) : DMk w0 w g gd m N K [] := by
  obtain ⟨P, h1, h2, h3⟩ := s
  exact ⟨P, h1, h2, h3, fun _ h => by cases h⟩
theorem DMk.st (s : DMk w0 w g gd m N K Ms) : DSt w0 w g gd m K := by
  obtain ⟨P, h1, h2, h3, _⟩ := s
  exact ⟨P, h1, h2, h3⟩
theorem DMk.turn {m' : Nat} (h2 : ∀ b ∈ P, w0.heap.size ≤ b) (h3 : Below w0.heap.size w0 w) (h4 : ∀ M ∈ Ms, MarkOn w P g m (N - 111) M) (hm : m ≤ m') (ht : DTurns P g gd m' K' w w') : DMk w0 w' g gd m' N K' Ms := by
  obtain ⟨P', a1, a2, a3⟩ := ht
  refine ⟨P', a1, fun b hb => ?_, h3.trans (a3.below h2 h3.size), fun M hM => (h4 M hM).turn a2 a3 hm⟩
  rcases a2 b hb with h | h
  · exact h2 b h
  · exact Nat.le_trans h3.size h
theorem DMk.below (s : DMk w0 w g gd m N K Ms) (hb : Below w.heap.size w w') : DMk w0 w' g gd m N K Ms := by
  obtain ⟨P, h1, h2, h3, h4⟩ := s
  exact DMk.turn h2 h3 h4 (Nat.le_refl _) (DTurns.of_below h1 hb)
theorem DMk.held {b : Nat} {o : Obj} (s : DMk w0 w g gd m N K Ms) (hM : MK.held b o ∈ Ms) : w.heap[b]? = some o := by
  obtain ⟨P, h1, h2, h3, h4⟩ := s
  exact (h4 _ hM).2
theorem DMk.hold {b : Nat} {o : Obj} (s : DMk w0 w g gd m N K Ms) (hb : Below w.heap.size w w') (hl : w.heap.size ≤ b) (ho : w'.heap[b]? = some o) : DMk w0 w' g gd m N K (.held b o :: Ms) := by
  obtain ⟨P, h1, h2, h3, h4⟩ := s
  refine ⟨P, h1.below hb, h2, h3.trans (hb.mono h3.size), fun M hM => ?_⟩
  rcases List.mem_cons.1 hM with rfl | hM
  · exact ⟨fun hm => by have := h1.lt hm; omega, ho⟩
  · exact (h4 M hM).turn (fun b hb => .inl hb) (Keep.of_below hb) (Nat.le_refl _)
theorem DMk.less {Ms' : List MK} (s : DMk w0 w g gd m N K Ms) (h : ∀ M ∈ Ms', M ∈ Ms) : DMk w0 w g gd m N K Ms' := by
  obtain ⟨P, h1, h2, h3, h4⟩ := s
  exact ⟨P, h1, h2, h3, fun M hM => h4 M (h M hM)⟩
theorem DMk.mono {m' : Nat} (s : DMk w0 w g gd m N K Ms) (h : m ≤ m') : DMk w0 w g gd m' N K Ms := by
  obtain ⟨P, h1, h2, h3, h4⟩ := s
  exact DMk.turn h2 h3 h4 h ((DTurns.refl h1).mono h)
theorem keepF_used {F : Int → ByteArray} {H H' : List Int} (hu : ∀ t, F t ≠ .empty → t ∈ H ∧ t ≠ 1 ∧ (F t).size = 256) : ∀ t, keepF H' F t ≠ .empty → t ∈ H' ∧ t ≠ 1 ∧ (keepF H' F t).size = 256 := by
  intro t he
  unfold keepF at he ⊢
  by_cases hm : t ∈ H'
  · rw [if_pos hm] at he ⊢
    exact ⟨hm, (hu t he).2⟩
  · rw [if_neg hm] at he
    exact absurd rfl he
theorem Run11.use (r : Run11 N K h c) {H' : List Int} (ho : HOk (N - 111) H') (h0 : (0 : Int) ∈ H') (h1 : (1 : Int) ∈ H') : Run11 N (useK K H') h c := r.with ho h0 h1 (keepF_used r.ok.used)
theorem dropR_ok {n : Nat} : ∀ (l : List Int) {H H' : List Int}, HOk n H → (0 : Int) ∈ H → (1 : Int) ∈ H → dropR H l = some H' → HOk n H' ∧ (0 : Int) ∈ H' ∧ (1 : Int) ∈ H'
  | [], H, H', ho, h0, h1, e => by
    injection e with e
    subst e
    exact ⟨ho, h0, h1⟩
  | x :: r, H, H', ho, h0, h1, e => by
    unfold dropR at e
    split at e
    · cases e
    · rename_i hx
      exact dropR_ok r (ho.drop x) ((dropL_mem _ _ _).2 ⟨h0, fun q => hx (.inl q.symm)⟩) ((dropL_mem _ _ _).2 ⟨h1, fun q => hx (.inr (.inl q.symm))⟩) e
theorem Run11.drop (r : Run11 N K h c) (l : List Int) : Run11 N (dropK K l) h c := by
  unfold dropK
  split
  · exact r
  · rename_i H e
    obtain ⟨a, b, d⟩ := dropR_ok l r.hok r.ok.zero r.ok.one e
    exact r.use a b d
theorem putEach_hok {n : Nat} (l : List Int) (hl : ∀ x ∈ l, 0 ≤ x ∧ x < (n : Int)) : HOk n (putEach l) := ⟨(putEach_spec l).1, fun x hx => hl x (((putEach_spec l).2 x).1 hx)⟩
theorem Run11.stay (r : Run11 N K h c) (l : List Int) : Run11 N (stayK K l) h c := by
  rcases Classical.em (StayOk K l) with e | e
  · rw [(stay_yes e).2]
    refine r.use (putEach_hok _ (fun x hx => ?_)) (((putEach_spec _).2 _).2 (by simp)) (((putEach_spec _).2 _).2 (by simp))
    have := e x hx
    rw [r.ok.len] at this
    exact this
  · rw [(stay_no e).2]
    exact r
theorem Run11.back {K0 : KD} {h0 : List ByteArray} {c0 : Nat} (r : Run11 N K h c) (r0 : Run11 N K0 h0 c0) : Run11 N (backK K K0.F K0.H) h c := r.with r0.hok r0.ok.zero r0.ok.one r0.ok.used
end
open Go.ChangeShapes Go.WideShapes Go.ChangeAt Go.RowKit
open Go.WideMaps Go.WideElems
open Go.Deep
structure Op11 where
  kind : Int
  a : Int
  s : ByteArray
  la : Option Addr
  lc : Nat
  l : List Int
def Op11.cells (d : Op11) : Array Value := #[.int .i64 d.kind, .int .i64 d.a, .string d.s, .slice d.la d.l.length d.lc]
structure Op11.In (d : Op11) (w : World) (B : Nat) : Prop where
  kindin : -9223372036854775808 ≤ d.kind ∧ d.kind ≤ 9223372036854775807
  ain : -9223372036854775808 ≤ d.a ∧ d.a ≤ 9223372036854775807
  sfew : d.s.size ≤ 9223372036854775807
  ls : Ints w B d.la d.l
  ln : d.la = none → d.l.length = 0 ∧ d.lc = 0
  lfew : d.l.length ≤ 9223372036854775807
theorem Op11.In.below {d : Op11} {w w' : World} {B : Nat} (h : d.In w B) (hb : Below B w w') : d.In w' B := ⟨h.kindin, h.ain, h.sfew, h.ls.below hb, h.ln, h.lfew⟩
def Acts11 (w : World) (B : Nat) (A : Option Addr) (ds : List Op11) : Prop :=
  0 < ds.length → ∃ b off, A = some ⟨b, off, none⟩ ∧ b < w.heap.size ∧ b < B ∧ ∀ (j : Nat) (d : Op11), ds[j]? = some d → w.cell? ⟨b, off + j * 4, none⟩ = some (.int .i64 d.kind) ∧ w.cell? ⟨b, off + j * 4 + 1, none⟩ = some (.int .i64 d.a) ∧ w.cell? ⟨b, off + j * 4 + 2, none⟩ = some (.string d.s) ∧ w.cell? ⟨b, off + j * 4 + 3, none⟩ = some (.slice d.la d.l.length d.lc) ∧ d.In w B
theorem Acts11.below {w w' : World} {B : Nat} {A : Option Addr} {ds : List Op11} (h : Acts11 w B A ds) (hs : w.heap.size ≤ w'.heap.size) (hb : Below B w w') : Acts11 w' B A ds := fun hp => by
  obtain ⟨b, off, e, h1, h2, hc⟩ := h hp
  refine ⟨b, off, e, Nat.lt_of_lt_of_le h1 hs, h2, fun j d hd => ?_⟩
  obtain ⟨q0, q1, q2, q3, q4⟩ := hc j d hd
  exact ⟨(hb.cell (p := ⟨b, off + j * 4, none⟩) h2).trans q0, (hb.cell (p := ⟨b, off + j * 4 + 1, none⟩) h2).trans q1, (hb.cell (p := ⟨b, off + j * 4 + 2, none⟩) h2).trans q2, (hb.cell (p := ⟨b, off + j * 4 + 3, none⟩) h2).trans q3, q4.below hb⟩
set_option maxRecDepth 100000 in
theorem cellsOp11 : Tryz.prog.cellsOf 48 = 4 := by kernel_rfl
theorem cells_string11 : Tryz.prog.cellsOf 9 = 1 := by kernel_rfl
theorem cells_ints11 : Tryz.prog.cellsOf 39 = 1 := by kernel_rfl
theorem part11 {α : Type} (cs : List α) (h : cs.length = 4) : ∃ v0 v1 v2 v3, cs = [v0, v1, v2, v3] := by
  match cs, h with
  | [v0, v1, v2, v3], _ => exact ⟨v0, v1, v2, v3, rfl⟩
instance : Inhabited Op11 := ⟨⟨0, 0, .empty, none, 0, []⟩⟩
structure Acts11In (w : World) (A : Option Addr) (n c : Nat) (ds : List Op11) : Prop where
  lie : Acts11 w w.heap.size A ds
  len : ds.length = n
  few : n ≤ 9223372036854775807
  nil_ : A = none → n = 0 ∧ c = 0
noncomputable def leastN (H : List Int) : Nat := by classical exact if h : ∃ k, Least H k then h.choose else 0
theorem leastN_spec {n : Nat} {H : List Int} (ho : HOk n H) : Least H (leastN H) := by
  have e := least_ex ho
  unfold leastN
  rw [dif_pos e]
  exact e.choose_spec
noncomputable def newS (N : Nat) (K : KD) (x : ByteArray) : KD := if leastN K.H < N - 111 then newK K (leastN K.H) x else K
noncomputable def stepK (N : Nat) (K : KD) (d : Op11) : KD :=
  if d.kind = 1 then setK K d.a (fillB d.s) else if d.kind = 2 then newS N K (fillB d.s) else if d.kind = 3 then dropK K d.l else if d.kind = 4 then stayK K d.l else K
section
variable {N : Nat} {K : KD} {h : List ByteArray} {c : Nat}
theorem Run11.newS (r : Run11 N K h c) {x : ByteArray} (hx : x.size = 256) : Run11 N (newS N K x) h c := by
  unfold Go.Proofs.YtiagofgcinlnhaaGreatDoor.newS
  split
  · exact r.new (leastN_spec r.hok) (by assumption) hx
  · exact r
theorem Run11.step (r : Run11 N K h c) (d : Op11) (hx : (fillB d.s).size = 256) : Run11 N (stepK N K d) h c := by
  unfold stepK
  split
  · exact r.set _ _
  · split
    · exact r.newS hx
    · split
      · exact r.drop _
      · split
        · exact r.stay _
        · exact r
end
section
variable {w0 w w' : World} {g gd m N : Nat} {K : KD} {h : List ByteArray} {c : Nat} {Ms : List MK}
end
section
variable {w0 w w' : World} {g gd m N : Nat} {K : KD} {h : List ByteArray} {c : Nat} {Ms : List MK}
end
def HeldRow (Ms : List MK) (base : Nat) (e : TypeId) (size : Nat) (v : Value) (n : Nat) (xs : List Value) : Prop :=
  xs.length = n * size ∧
  ((v = .slice none 0 0 ∧ n = 0) ∨
   ∃ g cap cur, v = .slice (some ⟨g, 0, none⟩) n cap ∧ base ≤ g ∧ MK.held g (.cells cur e (0, 0)) ∈ Ms ∧ n ≤ cap ∧ cap ≤ maxLen ∧ cur.size = cap * size ∧ cur.toList.take (n * size) = xs)
section
variable {w0 w w' : World} {g gd m N : Nat} {K : KD} {Ms Ms' : List MK} {base : Nat} {e : TypeId} {size : Nat} {v : Value} {n : Nat} {xs : List Value}
theorem HeldRow.nil : HeldRow Ms base e size (.slice none 0 0) 0 [] := ⟨by simp, .inl ⟨rfl, rfl⟩⟩
theorem HeldRow.row (h : HeldRow Ms base e size v n xs) (s : DMk w0 w g gd m N K Ms) : w.ownsRow base e size v n xs := by
  refine ⟨h.1, ?_⟩
  rcases h.2 with h | ⟨b, cap, cur, h1, h2, h3, h4⟩
  · exact .inl h
  · exact .inr ⟨b, cap, cur, h1, h2, s.held h3, h4⟩
theorem HeldRow.more (h : HeldRow Ms base e size v n xs) (hs : ∀ M ∈ Ms, M ∈ Ms') : HeldRow Ms' base e size v n xs := by
  refine ⟨h.1, ?_⟩
  rcases h.2 with h | ⟨b, cap, cur, h1, h2, h3, h4⟩
  · exact .inl h
  · exact .inr ⟨b, cap, cur, h1, h2, hs _ h3, h4⟩
theorem HeldRow.low {base' : Nat} (h : HeldRow Ms base e size v n xs) (hb : base' ≤ base) : HeldRow Ms base' e size v n xs := by
  refine ⟨h.1, ?_⟩
  rcases h.2 with h | ⟨b, cap, cur, h1, h2, h3, h4⟩
  · exact .inl h
  · exact .inr ⟨b, cap, cur, h1, Nat.le_trans hb h2, h3, h4⟩
theorem DMk.drewN {Ms : List MK} (s : DMk w0 w g gd m N K Ms) (d : Nat) : DMk w0 (w.drewN d) g gd m N K Ms := s.below ⟨rfl, rfl, rfl, Nat.le_refl _, fun _ _ => rfl⟩
end
set_option maxRecDepth 100000 in
set_option maxHeartbeats 1000000 in
theorem room11_any (left : Int) (A : Option Addr) (n c : Nat) (xs : List Int) (w : World) (hn : xs.length = n) (hx : IntsD w A xs) (hl : -1 ≤ left ∧ left ≤ 6000) (hp : ∀ x ∈ xs, 0 ≤ x ∧ x ≤ 9223372036854775807) (hm : n ≤ 100) :
    Calls Tryz.prog 32 #[.int .i64 left, .slice A n c] w fun e w' => (∃ r : Int, e = .returned (.int .i64 r) ∧ -1 ≤ r ∧ r ≤ 6000 ∧ (0 ≤ r → 0 ≤ left ∧ ∀ x ∈ xs, x ≤ 6000)) ∧ w = w' := by
  have HX := Lib.hid hx
  have HP := Lib.hid hp
  have HN := Lib.hid hn
  clear hx hp hn
  obtain ⟨l0, l1⟩ := hl
  go_enter Tryz.func32, Tryz.ntmps32
  go_wp2_with fail
  go_loop [0, 5] (fun v i => ∃ (r : Int) (j : Nat), j ≤ n ∧ i = .int .i64 j ∧ v = .int .i64 r ∧ -1 ≤ r ∧ r ≤ 6000 ∧ (0 ≤ r → 0 ≤ left ∧ ∀ x ∈ xs.take j, x ≤ 6000)) (fun _ i => n - (intOf i).toNat)
  case atStart => exact ⟨left, 0, Nat.zero_le _, rfl, rfl, l0, l1, fun h => ⟨h, by simp⟩⟩
  case round =>
    obtain ⟨r, j, hj, rfl, rfl, r0, r1, hq⟩ := hrel
    have HQ := Lib.hid hq
    clear hq
    by_cases hlt : j < n
    · have hxl : j < xs.length := by rw [HN.out]; exact hlt
      obtain ⟨b, off, eA, hbB, hc⟩ := HX.out (by omega)
      obtain ⟨x, hx⟩ : ∃ x, x = xs[j] := ⟨_, rfl⟩
      have hcx : w.cell? ⟨b, off + j, none⟩ = some (.int .i64 x) := hc j x (by rw [hx]; exact List.getElem?_eq_getElem hxl)
      obtain ⟨x0, x1⟩ := HP.out x (by rw [hx]; exact List.getElem_mem hxl)
      have HTK : Hid (xs.take (j + 1) = xs.take j ++ [x]) := Lib.hid (by rw [List.take_succ_eq_append_getElem hxl, hx])
      clear hc hx
      subst eA
      by_cases hneg : r < 0
      · go_wp2_with fail
        go_ret
        exact ⟨⟨-1, rfl, by omega, by omega, fun h => by omega⟩, rfl⟩
      · have hpos : 0 ≤ r := by omega
        clear hneg
        by_cases hbig : r < x
        · go_wp2_with fail
          go_ret
          exact ⟨⟨-1, rfl, by omega, by omega, fun h => by omega⟩, rfl⟩
        · have hsm : x ≤ r := by omega
          have HN2 : Hid (0 ≤ r - x → 0 ≤ left ∧ ∀ y ∈ xs.take (j + 1), y ≤ 6000) := Lib.hid (fun _ => by
            obtain ⟨q1, q2⟩ := HQ.out hpos
            refine ⟨q1, fun y hy => ?_⟩
            rw [HTK.out] at hy
            rcases List.mem_append.1 hy with hy | hy
            · exact q2 y hy
            · have := List.mem_singleton.1 hy; omega)
          clear hbig x1
          go_wp2_with fail
          go_round
          case rel => exact ⟨r - x, j + 1, by omega, by go_num, rfl, by omega, by omega, HN2.out⟩
          case measure => simp [intOf]; omega
    · obtain rfl : j = n := by omega
      have HF : Hid (0 ≤ r → 0 ≤ left ∧ ∀ x ∈ xs, x ≤ 6000) := Lib.hid (fun h => by
        obtain ⟨q1, q2⟩ := HQ.out h
        refine ⟨q1, ?_⟩
        rw [List.take_of_length_le (by rw [HN.out]; exact Nat.le_refl _)] at q2
        exact q2)
      go_wp2_with fail
      go_ret
      exact ⟨⟨r, rfl, r0, r1, HF.out⟩, rfl⟩
theorem ints_two11 {W : World} {b : Nat} {x y : Int} (h0 : W.cell? ⟨b, 0, none⟩ = some (.int .i64 x)) (h1 : W.cell? ⟨b, 1, none⟩ = some (.int .i64 y)) : IntsD W (some ⟨b, 0, none⟩) [x, y] := by
  intro _
  refine ⟨b, 0, rfl, World.block_lt_of_cell? W _ h0, fun i z hz => ?_⟩
  match i, hz with
  | 0, hz => injection hz with hz; rw [← hz]; exact h0
  | 1, hz => injection hz with hz; rw [← hz]; exact h1
def Op11.light (d : Op11) : Prop := d.s.size ≤ 6000 ∧ d.l.length ≤ 6000
def LightSays11 (ds : List Op11) (e : Ending) : Prop := ∃ r : Bool, e = .returned (.bool r) ∧ (r = true → ds.length ≤ 60 ∧ ∀ d ∈ ds, d.light)
set_option maxRecDepth 100000 in
set_option maxHeartbeats 4000000 in
theorem light11_any (A : Option Addr) (n c : Nat) (ds : List Op11) (w0 w : World) (hA : Acts11In w0 A n c ds) (hb0 : Below w0.heap.size w0 w) :
    Calls Tryz.prog 4 #[.slice A n c] w fun e w' => LightSays11 ds e ∧ Below w.heap.size w w' := by
  have hA1 : Acts11 w w0.heap.size A ds := hA.lie.below hb0.size hb0
  have HA := Lib.hid hA1
  have HBB := Lib.hid hb0.size
  have hn := hA.few
  have EN := Lib.hid hA.len
  clear hA hA1 hb0
  have hnI : (n : Int) ≤ 9223372036854775807 := by omega
  go_enter Tryz.func4, Tryz.ntmps4
  go_wp2_with fail
  go_loopw [3, 4] (fun v i wr => ∃ (r : Int) (j : Nat), j ≤ 100 ∧ j ≤ n ∧ i = .int .i64 j ∧ v = .int .i64 r ∧ -1 ≤ r ∧ r ≤ 6000 ∧ Below w.heap.size w wr ∧ (0 ≤ r → ∀ d ∈ ds.take j, d.light)) (fun _ i _ => 100 - (intOf i).toNat)
  case atStart => exact ⟨4000, 0, by omega, by omega, rfl, rfl, by omega, by omega, Below.refl _ _, fun _ => by simp⟩
  case round =>
    obtain ⟨r, j, hj, hjn, rfl, rfl, r0, r1, hbr, hli⟩ := hrel
    have HLI := Lib.hid hli
    have HBR := Lib.hid hbr
    clear hli
    by_cases hgo : j < n ∧ j < 100 ∧ 0 ≤ r
    · obtain ⟨hlt, hj1, hr0⟩ := hgo
      have hxl : j < ds.length := by rw [EN.out]; exact hlt
      obtain ⟨b, off, eA, hbw0, hbB, hc⟩ := HA.out (by omega)
      obtain ⟨x, hx⟩ : ∃ x, x = ds[j] := ⟨_, rfl⟩
      obtain ⟨-, -, q2, q3, hin⟩ := hc j x (by rw [hx]; exact List.getElem?_eq_getElem hxl)
      have HTK : Hid (ds.take (j + 1) = ds.take j ++ [x]) := Lib.hid (by rw [List.take_succ_eq_append_getElem hxl, hx])
      have k2 := (hbr.cell (p := ⟨b, off + j * 4 + 2, none⟩) hbw0).trans q2
      have k3 := (hbr.cell (p := ⟨b, off + j * 4 + 3, none⟩) hbw0).trans q3
      have hbw : b < wr.heap.size := Nat.lt_of_lt_of_le hbw0 hbr.size
      obtain ⟨s, hs⟩ : ∃ s, s = x.s := ⟨_, rfl⟩
      obtain ⟨ll, hll⟩ : ∃ ll, ll = x.l.length := ⟨_, rfl⟩
      obtain ⟨la, hla⟩ : ∃ la, la = x.la := ⟨_, rfl⟩
      obtain ⟨lc, hlc⟩ : ∃ lc, lc = x.lc := ⟨_, rfl⟩
      have hsf := hin.sfew
      have hlf := hin.lfew
      rw [← hs] at hsf k2
      rw [← hll] at hlf k3
      rw [← hla, ← hlc] at k3
      have HS := Lib.hid hs
      have HLL := Lib.hid hll
      clear hc hx q2 q3 hin hbw0 hbB hs hll hla hlc
      subst eA
      have HROOM : Hid (∀ W : World, W.cell? ⟨wr.heap.size, 0, none⟩ = some (.int .i64 s.size) → W.cell? ⟨wr.heap.size, 1, none⟩ = some (.int .i64 ll) →
          Calls Tryz.prog 32 #[.int .i64 r, .slice (some ⟨wr.heap.size, 0, none⟩) 2 2] W fun e w' => (∃ q : Int, e = .returned (.int .i64 q) ∧ -1 ≤ q ∧ q ≤ 6000 ∧ (0 ≤ q → s.size ≤ 6000 ∧ ll ≤ 6000)) ∧ W = w') := Lib.hid (by
        intro W h0 h1
        refine (room11_any r _ 2 2 [(s.size : Int), (ll : Int)] W rfl (ints_two11 h0 h1) ⟨r0, r1⟩ ?_ (by omega)).mono ?_
        · intro y hy
          simp only [List.mem_cons, List.mem_nil_iff, or_false] at hy
          rcases hy with rfl | rfl
          · exact ⟨by omega, by omega⟩
          · exact ⟨by omega, by omega⟩
        · rintro e w' ⟨⟨q, rfl, q0, q1, q2⟩, rfl⟩
          refine ⟨⟨q, rfl, q0, q1, fun h => ?_⟩, rfl⟩
          have h3 := (q2 h).2
          have a1 := h3 s.size (by simp)
          have a2 := h3 ll (by simp)
          omega)
      have HK : Hid (∀ o : Obj, (wr.alloc o).drew.cell? ⟨b, off + j * 4 + 2, none⟩ = some (.string s) ∧ (wr.alloc o).drew.cell? ⟨b, off + j * 4 + 3, none⟩ = some (.slice la ll lc)) :=
        Lib.hid fun o => ⟨(World.cell?_alloc_lt wr o ⟨b, off + j * 4 + 2, none⟩ hbw).trans k2, (World.cell?_alloc_lt wr o ⟨b, off + j * 4 + 3, none⟩ hbw).trans k3⟩
      have hjI : (j : Int) < 100 := by omega
      have hjnI : (j : Int) < (n : Int) := by omega
      clear hbr
      go_wp2_with fail
      go_region_held3 (fun w' => w'.cell? ⟨b, off + j * 4 + 2, none⟩ = some (.string s) ∧ w'.cell? ⟨b, off + j * 4 + 3, none⟩ = some (.slice la ll lc)) (first | exact ⟨k2, k3⟩ | exact HK.out _)
        (first | (go_at_call 32; refine (HROOM.out _ (by simp [go_sem]) (by simp [go_sem])).mono ?_; rintro e w1 ⟨⟨r', rfl, s0, s1, s2⟩, rfl⟩))
      have HS2 := Lib.hid s2
      have HB2 : Hid (Below w.heap.size w (wr.alloc (.cells #[.int .i64 s.size, .int .i64 ll] 3)).drew) := Lib.hid (HBR.out.alloc HBR.out.size _).drew
      have HN2 : Hid (0 ≤ r' → ∀ d ∈ ds.take (j + 1), d.light) := Lib.hid (fun h => by
        obtain ⟨a1, a2⟩ := HS2.out h
        intro d hd
        rw [HTK.out] at hd
        rcases List.mem_append.1 hd with hd | hd
        · exact HLI.out hr0 d hd
        · have := List.mem_singleton.1 hd
          subst this
          exact ⟨by rw [← HS.out]; exact a1, by rw [← HLL.out]; exact a2⟩)
      clear k2 k3 s2
      go_wp2_with fail
      go_roundw
      case rel => exact ⟨r', j + 1, by omega, by omega, by go_num, rfl, s0, s1, HB2.out, HN2.out⟩
      case measure => simp [intOf]; omega
    · have HANS : Hid (0 ≤ r → n ≤ 60 → ∀ d ∈ ds, d.light) := Lib.hid (fun h1 h2 => by
        have e : j = n := by
          rcases Nat.lt_or_ge j n with h' | h'
          · exact absurd ⟨h', by omega, h1⟩ hgo
          · omega
        have h3 := HLI.out h1
        rw [e, ← EN.out, List.take_length] at h3
        exact h3)
      have hex : ((j : Int) < (n : Int) ∧ (j : Int) < 100 ∧ r < 0) ∨ ((j : Int) < (n : Int) ∧ j = 100) ∨ j = n := by
        rcases Nat.lt_or_ge j n with h' | h'
        · rcases Nat.lt_or_ge j 100 with h2 | h2
          · left
            refine ⟨by omega, by omega, ?_⟩
            rcases Int.lt_or_le r 0 with h | h
            · exact h
            · exact absurd ⟨h', h2, h⟩ hgo
          · right; left; exact ⟨by omega, by omega⟩
        · right; right; omega
      clear hgo hbr
      by_cases h40 : n ≤ 60
      · have h40I : (n : Int) ≤ 60 := by omega
        by_cases hr0 : 0 ≤ r
        · have HT := Lib.hid (HANS.out hr0 h40)
          rcases hex with ⟨h1, h2, h3⟩ | ⟨h1, h2⟩ | rfl
          · omega
          · omega
          · go_wp2_with fail
            go_ret
            exact ⟨⟨true, rfl, fun _ => ⟨by rw [EN.out]; exact h40, HT.out⟩⟩, HBR.out⟩
        · have hr1 : r < 0 := by omega
          rcases hex with ⟨h1, h2, h3⟩ | ⟨h1, h2⟩ | rfl
          · go_wp2_with fail
            go_ret
            exact ⟨⟨false, rfl, fun h => by cases h⟩, HBR.out⟩
          · omega
          · go_wp2_with fail
            go_ret
            exact ⟨⟨false, rfl, fun h => by cases h⟩, HBR.out⟩
      · have h40I : ¬ (n : Int) ≤ 60 := by omega
        have h40J : (60 : Int) < (n : Int) := by omega
        rcases hex with ⟨h1, h2, h3⟩ | ⟨h1, rfl⟩ | rfl
        · go_wp2_with fail
          go_ret
          exact ⟨⟨false, rfl, fun h => by cases h⟩, HBR.out⟩
        · go_wp2_with fail
          go_ret
          exact ⟨⟨false, rfl, fun h => by cases h⟩, HBR.out⟩
        · by_cases h200 : j < 100
          · have h2I : (j : Int) < 100 := by omega
            go_wp2_with fail
            go_ret
            exact ⟨⟨false, rfl, fun h => by cases h⟩, HBR.out⟩
          · go_wp2_with fail
            go_ret
            exact ⟨⟨false, rfl, fun h => by cases h⟩, HBR.out⟩
theorem cells_list11c {H : Type} {enc : TypeId × Value → H} {W : World} {cs : List Value} {fuel : Nat} {x : DataW H × List MemPlace} (h : DataW.trod enc Tryz.prog W 0 (fun _ => true) true fuel 39 cs = some x) :
    ∃ (a : Option Addr) (c : Nat) (l : List Int), cs = [.slice a l.length c] ∧ Ints W W.heap.size a l ∧ (a = none → l.length = 0 ∧ c = 0) ∧ l.length ≤ 9223372036854775807 ∧ l.length ≤ c := by
  rcases open_ints Tryz.underlying39 Tryz.underlying3 cellsIntV h with ⟨hcs, _⟩ | ⟨a', len, cap, zs, hcs, _, hl, hcap, hz, _, hc, hw⟩
  · exact ⟨none, 0, [], hcs, Ints.nil _ _ _, fun _ => ⟨rfl, rfl⟩, by simp, by simp⟩
  · simp only [if_true] at hz
    have hmax : maxLen = 9223372036854775807 := rfl
    have hlen : (zs.take len).length = len := by rw [List.length_take]; omega
    refine ⟨some a', cap, zs.take len, by rw [hlen]; exact hcs, ?_, (fun e => by cases e), by omega, by omega⟩
    intro hpos
    rw [hlen] at hpos
    obtain ⟨b, off, rfl, hb, hc'⟩ := plain_at hc (by omega)
    refine ⟨b, off, rfl, hb, fun j x hx => ?_⟩
    rw [List.getElem?_take] at hx
    split at hx
    · have := hc' j (by omega)
      rw [this, List.getD_eq_getElem?_getD, hx]
      rfl
    · cases hx
set_option maxRecDepth 100000 in
theorem cells_op11c {H : Type} {enc : TypeId × Value → H} {W : World} {cs : List Value} {fuel : Nat} {x : DataW H × List MemPlace} (h : DataW.trod enc Tryz.prog W 0 (fun _ => true) true fuel 48 cs = some x) :
    ∃ d : Op11, cs = d.cells.toList ∧ d.In W W.heap.size ∧ d.l.length ≤ d.lc := by
  obtain ⟨xs, n, _, rfl, hl, hlen, hf⟩ := DataW.trod_struct Tryz.underlying48 h
  rw [cellsOp11] at hl
  obtain ⟨v0, v1, v2, v3, rfl⟩ := part11 cs hl
  obtain ⟨y0, y1, y2, y3, rfl⟩ := part11 xs hlen
  have h0 : DataW.trod enc Tryz.prog W 0 (fun _ => true) true n 3 (([v0, v1, v2, v3].drop 0).take (Tryz.prog.cellsOf 3)) = some y0 := hf 0 _ rfl
  have h1 : DataW.trod enc Tryz.prog W 0 (fun _ => true) true n 3 (([v0, v1, v2, v3].drop 1).take (Tryz.prog.cellsOf 3)) = some y1 := hf 1 _ rfl
  have h2 : DataW.trod enc Tryz.prog W 0 (fun _ => true) true n 9 (([v0, v1, v2, v3].drop 2).take (Tryz.prog.cellsOf 9)) = some y2 := hf 2 _ rfl
  have h3 : DataW.trod enc Tryz.prog W 0 (fun _ => true) true n 39 (([v0, v1, v2, v3].drop 3).take (Tryz.prog.cellsOf 39)) = some y3 := hf 3 _ rfl
  simp only [cellsIntV, cells_string11, cells_ints11, List.drop_zero, List.drop_succ_cons, List.take_succ_cons, List.take_zero] at h0 h1 h2 h3
  obtain ⟨k0, e0, _, w0⟩ := DataW.trod_int Tryz.underlying3 h0
  obtain ⟨k1, e1, _, w1⟩ := DataW.trod_int Tryz.underlying3 h1
  obtain ⟨k2, e2, _, w2⟩ := DataW.trod_string Tryz.underlying9 h2
  obtain ⟨a3, c3, k3, e3, l3, m3, w3, z3⟩ := cells_list11c h3
  injection e0 with e0
  injection e1 with e1
  injection e2 with e2
  injection e3 with e3
  subst e0 e1 e2 e3
  exact ⟨⟨k0, k1, k2, a3, c3, k3⟩, rfl, ⟨bounds_i64 w0, bounds_i64 w1, (by have hmax : maxLen = 9223372036854775807 := rfl; rw [← hmax]; exact w2), l3, m3, w3⟩, z3⟩
def Acts11Cap (w : World) (A : Option Addr) (n c : Nat) (ds : List Op11) : Prop := Acts11In w A n c ds ∧ ∀ d ∈ ds, d.l.length ≤ d.lc
theorem view_acts11c {H : Type} {enc : TypeId × Value → H} {W : World} {a : Option Addr} {n c : Nat} {d : DataW H} {p : List MemPlace} (h : DataW.Trod enc Tryz.prog W 0 (fun _ => true) true 22 (.slice a n c) d p) :
    ∃ ds : List Op11, Acts11Cap W a n c ds := by
  obtain ⟨fuel, hf⟩ := h
  rcases open_slice Tryz.underlying22 hf with ⟨hcs, _⟩ | ⟨a', len, cap, m, k, D, Pl, hcs, _, hl, hcap, hm, _, hx⟩
  · simp [Value.cells] at hcs
    obtain ⟨rfl, rfl, rfl⟩ := hcs
    exact ⟨[], ⟨(fun h => by cases h), rfl, by simp, fun _ => ⟨rfl, rfl⟩⟩, fun d hd => by cases hd⟩
  · simp [Value.cells] at hcs
    obtain ⟨rfl, rfl, rfl⟩ := hcs
    simp only [if_true] at hm
    subst hm
    have hmax : maxLen = 9223372036854775807 := rfl
    obtain ⟨F, hF⟩ := choose_lt (α := Op11) (n := n) (p := fun i d => (∀ j, j < 4 → W.cell? (a'.add (i * 4 + j)) = d.cells.toList[j]?) ∧ d.In W W.heap.size ∧ d.l.length ≤ d.lc) (fun i hi => by
      obtain ⟨cs', h1, h2⟩ := hx i (by omega)
      obtain ⟨d, hd, ht⟩ := cells_op11c h2
      rw [cellsOp11] at h1
      obtain ⟨_, _, hc⟩ := World.cells?_some h1
      refine ⟨d, fun j hj => ?_, ht⟩
      rw [← Addr.add_add, hc j hj, hd])
    have hlen : ((List.range n).map F).length = n := by simp
    refine ⟨(List.range n).map F, ⟨?_, hlen, by omega, fun e => by cases e⟩, fun d hd => ?_⟩
    rotate_left
    · obtain ⟨i, hi, rfl⟩ := List.mem_map.1 hd
      exact (hF i (List.mem_range.1 hi)).2.2
    intro hpos
    rw [hlen] at hpos
    obtain ⟨b, off, spot⟩ := a'
    have h00 := (hF 0 hpos).1 0 (by omega)
    have hspot : spot = none := by
      have := World.cell?_spot h00
      simpa [Addr.add] using this
    subst hspot
    have hb : b < W.heap.size := by
      rw [Go.WideShapes.add_plain] at h00
      exact World.block_lt_of_cell? W _ h00
    refine ⟨b, off, rfl, hb, hb, fun j d hd => ?_⟩
    rw [List.getElem?_map] at hd
    obtain ⟨i, hi, rfl⟩ := Option.map_eq_some_iff.1 hd
    have hij : j < n ∧ j = i := by
      by_cases hj : j < n
      · rw [List.getElem?_range hj] at hi
        exact ⟨hj, Option.some.inj hi⟩
      · rw [List.getElem?_eq_none (by simp; omega)] at hi; cases hi
    obtain ⟨hj, rfl⟩ := hij
    obtain ⟨hc, ht, -⟩ := hF j hj
    have q : ∀ i, i < 4 → W.cell? ⟨b, off + j * 4 + i, none⟩ = (F j).cells.toList[i]? := fun i hi => by
      rw [← hc i hi, Go.WideShapes.add_plain, Nat.add_assoc]
    exact ⟨q 0 (by omega), q 1 (by omega), q 2 (by omega), q 3 (by omega), ht⟩
end Go.Proofs.YtiagofgcinlnhaaGreatDoor
