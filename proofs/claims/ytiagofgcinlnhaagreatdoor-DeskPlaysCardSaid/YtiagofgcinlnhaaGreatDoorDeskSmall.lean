/-
  Package desk: lay, Set, New, Get. No statement is proved here.
-/
import Derived.Test.YtiagofgcinlnhaaGreatDoorRefDrop
import Derived.Test.YtiagofgcinlnhaaGreatDoorPutPure
import Derived.Test.YtiagofgcinlnhaaGreatDoorDiskAlive
import Derived.Test.YtiagofgcinlnhaaGreatDoorHeadParse
import Derived.Deep.CutRange
namespace Go.Proofs.YtiagofgcinlnhaaGreatDoor
open Go.RowKit
theorem Ints.two {w : World} {b : Nat} {k m : Int} (h : Blk w b 3 #[.int .i64 k, .int .i64 m]) : Ints w w.heap.size (some ⟨b, 0, none⟩) [k, m] := ints_blk2 h
theorem putEach_spec (l : List Int) : (putEach l).Pairwise (· < ·) ∧ ∀ z, z ∈ putEach l ↔ z ∈ l := by
  obtain ⟨h1, h2⟩ := putAll_spec l [] List.Pairwise.nil
  exact ⟨h1, fun z => by rw [show putEach l = l.foldl (fun a x => putL x a) [] from rfl, h2 z]; simp⟩
theorem putL_length (x : Int) : ∀ l : List Int, x ∉ l → (putL x l).length = l.length + 1
  | [], _ => rfl
  | y :: r, h => by
    have h1 : x ≠ y := fun e => h (by simp [e])
    have h2 : x ∉ r := fun e => h (by simp [e])
    unfold putL
    split
    · rw [List.length_cons, putL_length x r h2, List.length_cons]
    · rw [if_neg (fun e => h1 e.symm)]
      simp
theorem putL_le (x : Int) : ∀ l : List Int, (putL x l).length ≤ l.length + 1
  | [] => by simp [putL]
  | y :: r => by
    unfold putL
    split
    · rw [List.length_cons, List.length_cons]; have := putL_le x r; omega
    · split <;> simp
theorem least_lt {n : Nat} {H : List Int} {k : Nat} (ho : HOk n H) (hk : Least H k) (hl : H.length < n) : k < n := by
  have h1 := hk.le ho
  rcases Nat.lt_or_ge k n with h | h
  · exact h
  · obtain rfl : k = n := by omega
    have e : (List.range k).filter (inP H) = List.range k := by
      rw [List.filter_eq_self]
      intro t ht
      exact (inP_iff _ _).2 (hk.all t (List.mem_range.1 ht))
    have := congrArg List.length (all_list ho)
    rw [List.length_map, e, List.length_range] at this
    omega
structure Taking (n : Nat) (old : List Int) (i : Nat) (last : Int) (H : List Int) : Prop where
  ok : HOk n H
  len : H.length = old.length + i
  old : ∀ x ∈ old, x ∈ H
  up : ∀ t : Nat, (t : Int) ≤ last → (t : Int) ∈ H
  low : -1 ≤ last
theorem Taking.start {n : Nat} {old : List Int} (ho : HOk n old) : Taking n old 0 (-1) old := ⟨ho, rfl, fun _ h => h, fun t ht => by omega, by omega⟩
theorem Taking.next {n : Nat} {old : List Int} {i : Nat} {last : Int} {H : List Int} {k : Nat} (h : Taking n old i last H) (hk : Least H k) (hi : old.length + i < n) :
    k < n ∧ last < (k : Int) ∧ (k : Int) ∉ old ∧ Taking n old (i + 1) (k : Int) (putL (k : Int) H) := by
  have hlt := least_lt h.ok hk (by rw [h.len]; exact hi)
  refine ⟨hlt, ?_, fun hm => hk.not (h.old _ hm), h.ok.put (by omega) (by omega), by rw [putL_length _ _ hk.not, h.len]; omega, fun x hx => (putL_mem _ _ _).2 (.inr (h.old x hx)), fun t ht => ?_, by omega⟩
  · rcases Int.lt_or_le last (k : Int) with h' | h'
    · exact h'
    · exact absurd (h.up k h') hk.not
  · rcases Nat.lt_or_ge t k with h' | h'
    · exact (putL_mem _ _ _).2 (.inr (hk.all t h'))
    · exact (putL_mem _ _ _).2 (.inl (by omega))
structure Back (n : Nat) (l : List Int) (i : Nat) (H : List Int) : Prop where
  ok : HOk n H
  mem : ∀ x, x ∈ H ↔ (0 ≤ x ∧ x < (n : Int)) ∧ x ∉ l.drop i
theorem Back.next {n : Nat} {l : List Int} {i : Nat} {H : List Int} {y : Int} (h : Back n l i H) (hl : l.Pairwise (· < ·)) (hr : ∀ x ∈ l, 0 ≤ x ∧ x < (n : Int)) (hy : l[i]? = some y) :
    ∃ k : Nat, y = (k : Int) ∧ k < n ∧ Least H k ∧ Back n l (i + 1) (putL (k : Int) H) := by
  obtain ⟨y0, y1⟩ := hr y (List.mem_of_getElem? hy)
  obtain ⟨k, rfl⟩ := Int.eq_ofNat_of_zero_le y0
  have hil : i < l.length := by
    rcases Nat.lt_or_ge i l.length with h' | h'
    · exact h'
    · rw [List.getElem?_eq_none h'] at hy; cases hy
  have hd : l.drop i = (k : Int) :: l.drop (i + 1) := by
    rw [List.drop_eq_getElem_cons hil]
    rw [List.getElem?_eq_getElem hil] at hy
    rw [Option.some.inj hy]
  have hp : ((k : Int) :: l.drop (i + 1)).Pairwise (· < ·) := by rw [← hd]; exact hl.sublist (List.drop_sublist _ _)
  rw [List.pairwise_cons] at hp
  have hno : (k : Int) ∉ l.drop (i + 1) := fun hm => by have := hp.1 _ hm; omega
  refine ⟨k, rfl, by omega, ⟨fun t ht => ?_, fun hm => ?_⟩, h.ok.put (by omega) y1, fun x => ?_⟩
  · refine (h.mem _).2 ⟨⟨by omega, by omega⟩, fun hm => ?_⟩
    rw [hd] at hm
    rcases List.mem_cons.1 hm with e | hm
    · omega
    · have := hp.1 _ hm; omega
  · exact ((h.mem _).1 hm).2 (by rw [hd]; simp)
  · rw [putL_mem, h.mem, hd, List.mem_cons]
    constructor
    · rintro (rfl | ⟨a, b⟩)
      · exact ⟨⟨by omega, y1⟩, hno⟩
      · exact ⟨a, fun h => b (.inr h)⟩
    · rintro ⟨a, b⟩
      by_cases e : x = (k : Int)
      · exact .inl e
      · exact .inr ⟨a, fun h => h.elim e b⟩
structure KD where
  S : DS
  seq : Int
  up : Bool
  k : Int
  F : Int → ByteArray
  H : List Int
  kept : ByteArray
  syncs : Int
  bad : Int
def deskC (gw gm gr : Nat) (kept : ByteArray) (syncs bad : Int) : Array Value := #[.pointer (some ⟨gw, 0, none⟩), .map (some gm), .pointer (some ⟨gr, 0, none⟩), .string kept, .int .i64 syncs, .int .i64 bad]
structure DeskIs (w : World) (g gw gm gr gd m : Nat) (O : List Nat) (K : KD) : Prop where
  blk : Blk w g 36 (deskC gw gm gr K.kept K.syncs K.bad)
  wal : Blk w gw 101 (walC gd K.seq K.up K.k)
  disk : DiskAt w O gd K.S
  map : MapW w gm m K.F
  room : RoomAt w gr (K.S.now.length - 111) K.H
  apart : (g :: gw :: gm :: gr :: O).Nodup
def DeskAt (w : World) (P : List Nat) (g gd m : Nat) (K : KD) : Prop := ∃ gw gm gr O, P = g :: gw :: gm :: gr :: O ∧ DeskIs w g gw gm gr gd m O K
def DTurns (P : List Nat) (g gd m : Nat) (K : KD) (w w' : World) : Prop := ∃ P', DeskAt w' P' g gd m K ∧ (∀ b ∈ P', b ∈ P ∨ w.heap.size ≤ b) ∧ Keep P w w'
theorem MapW.keep {w w' : World} {b m : Nat} {F : Int → ByteArray} {O : List Nat} (h : MapW w b m F) (hk : Keep O w w') (hb : b ∉ O) : MapW w' b m F := h.kept (hk.block b h.lt hb)
theorem Blk.keep {w w' : World} {g : Nat} {t : TypeId} {cs : Array Value} {O : List Nat} (h : Blk w g t cs) (hk : Keep O w w') (hb : g ∉ O) : Blk w' g t cs := (hk.block g h.lt hb).trans h
theorem RoomAt.keep {w w' : World} {g n : Nat} {H : List Int} {O : List Nat} (h : RoomAt w g n H) (hk : Keep O w w') (hb : g ∉ O) : RoomAt w' g n H := ⟨h.blk.keep hk hb, h.ok, h.size⟩
section
variable {w w' : World} {P : List Nat} {g gw gm gr gd m : Nat} {O : List Nat} {K : KD}
theorem DeskIs.lt (h : DeskIs w g gw gm gr gd m O K) {b : Nat} (hb : b ∈ g :: gw :: gm :: gr :: O) : b < w.heap.size := by
  simp only [List.mem_cons] at hb
  rcases hb with rfl | rfl | rfl | rfl | hb
  · exact h.blk.lt
  · exact h.wal.lt
  · exact h.map.lt
  · exact h.room.lt
  · exact h.disk.lt hb
theorem DeskAt.lt (h : DeskAt w P g gd m K) {b : Nat} (hb : b ∈ P) : b < w.heap.size := by
  obtain ⟨gw, gm, gr, O, rfl, h⟩ := h
  exact h.lt hb
theorem DeskIs.kept (h : DeskIs w g gw gm gr gd m O K) (hk : ∀ b ∈ g :: gw :: gm :: gr :: O, w'.heap[b]? = w.heap[b]?) : DeskIs w' g gw gm gr gd m O K where
  blk := (hk g (by simp)).trans h.blk
  wal := (hk gw (by simp)).trans h.wal
  disk := h.disk.kept fun b hb => hk b (by simp [hb])
  map := h.map.kept (hk gm (by simp))
  room := ⟨(hk gr (by simp)).trans h.room.blk, h.room.ok, h.room.size⟩
  apart := h.apart
theorem DeskAt.kept (h : DeskAt w P g gd m K) (hk : ∀ b ∈ P, w'.heap[b]? = w.heap[b]?) : DeskAt w' P g gd m K := by
  obtain ⟨gw, gm, gr, O, rfl, h⟩ := h
  exact ⟨gw, gm, gr, O, rfl, h.kept hk⟩
theorem DeskAt.far {Q : List Nat} (h : DeskAt w P g gd m K) (hk : Keep Q w w') (ha : ∀ b ∈ P, b ∉ Q) : DeskAt w' P g gd m K := h.kept fun b hb => hk.block b (h.lt hb) (ha b hb)
theorem DeskAt.below (h : DeskAt w P g gd m K) (hb : Below w.heap.size w w') : DeskAt w' P g gd m K := h.kept fun b hb' => hb.block b (h.lt hb')
theorem DeskAt.mem (h : DeskAt w P g gd m K) : g ∈ P := by
  obtain ⟨gw, gm, gr, O, rfl, h⟩ := h
  simp
theorem DTurns.refl (h : DeskAt w P g gd m K) : DTurns P g gd m K w w := ⟨P, h, fun _ hb => .inl hb, Keep.refl _ _⟩
theorem DTurns.of_below (h : DeskAt w P g gd m K) (hb : Below w.heap.size w w') : DTurns P g gd m K w w' := ⟨P, h.below hb, fun _ hb => .inl hb, Keep.of_below hb⟩
theorem DTurns.trans {w0 : World} {m' : Nat} {K' : KD} (h : DTurns P g gd m K w0 w) (k : ∀ P', DeskAt w P' g gd m K → DTurns P' g gd m' K' w w') : DTurns P g gd m' K' w0 w' := by
  obtain ⟨P1, h1, h2, h3⟩ := h
  obtain ⟨P2, k1, k2, k3⟩ := k P1 h1
  refine ⟨P2, k1, fun b hb => ?_, h3.trans k3 h2⟩
  rcases k2 b hb with h | h
  · exact h2 b h
  · exact .inr (Nat.le_trans h3.size h)
theorem DTurns.below_in {w'' : World} (h : DTurns P g gd m K w w') (hb : Below w'.heap.size w' w'') : DTurns P g gd m K w w'' := h.trans fun _ h' => DTurns.of_below h' hb
theorem DTurns.after {w0 : World} (hb : Below w0.heap.size w0 w) (h : DTurns P g gd m K w w') : DTurns P g gd m K w0 w' := by
  obtain ⟨P1, h1, h2, h3⟩ := h
  refine ⟨P1, h1, fun b hb' => ?_, (Keep.of_below hb).trans' h3⟩
  rcases h2 b hb' with h | h
  · exact .inl h
  · exact .inr (Nat.le_trans hb.size h)
theorem DeskIs.nodup (h : DeskIs w g gw gm gr gd m O K) : g ≠ gw ∧ g ≠ gm ∧ g ≠ gr ∧ gw ≠ gm ∧ gw ≠ gr ∧ gm ≠ gr ∧ g ∉ O ∧ gw ∉ O ∧ gm ∉ O ∧ gr ∉ O := by
  have := h.apart
  simp only [List.nodup_cons, List.mem_cons, not_or] at this
  obtain ⟨⟨a1, a2, a3, a4⟩, ⟨b1, b2, b3⟩, ⟨c1, c2⟩, d1, _⟩ := this
  exact ⟨a1, a2, a3, b1, b2, c1, a4, b3, c2, d1⟩
theorem DeskIs.at (h : DeskIs w g gw gm gr gd m O K) : DeskAt w (g :: gw :: gm :: gr :: O) g gd m K := ⟨gw, gm, gr, O, rfl, h⟩
set_option maxRecDepth 100000 in
set_option maxHeartbeats 1000000 in
theorem kbad_any (h : DeskAt w P g gd m K) : Calls Tryz.prog 26 #[.pointer (some ⟨g, 0, none⟩)] w fun e w' => e = .returned (.int .i64 K.bad) ∧ w' = w := by
  obtain ⟨gw, gm, gr, O, rfl, h⟩ := h
  have c2 := h.blk.cell 2
  have c5 := h.blk.cell 5
  simp [deskC] at c2 c5
  clear h
  go_enter Tryz.func26, Tryz.ntmps26
  go_wp2_with fail
  go_ret
  exact ⟨rfl, rfl⟩
set_option maxRecDepth 100000 in
set_option maxHeartbeats 1000000 in
theorem kroom_any (h : DeskAt w P g gd m K) : Calls Tryz.prog 60 #[.pointer (some ⟨g, 0, none⟩)] w fun e w' => e = .returned (.pointer (some ⟨w.heap.size, 0, none⟩)) ∧ RoomAt w' w.heap.size (K.S.now.length - 111) K.H ∧ Below w.heap.size w w' := by
  obtain ⟨gw, gm, gr, O, rfl, h⟩ := h
  have c2 := h.blk.cell 2
  simp [deskC] at c2
  have HC := Lib.hid (rcopy_any h.room)
  clear h
  go_enter Tryz.func60, Tryz.ntmps60
  go_wp2_with (go_at_call 46; refine HC.out.mono ?_; rintro e w1 ⟨rfl, hr, hb⟩)
  go_ret
  exact ⟨rfl, hr, hb⟩
theorem arr15 (a : Array Value) (h : a.size = 15) : ∃ y0 y1 y2 y3 y4 y5 y6 y7 y8 y9 y10 y11 y12 y13 y14 : Value, a = #[y0, y1, y2, y3, y4, y5, y6, y7, y8, y9, y10, y11, y12, y13, y14] := by
  obtain ⟨l⟩ := a
  have h : l.length = 15 := h
  obtain ⟨y0, t1, e1, h1⟩ := cons_of h
  obtain ⟨y1, t2, e2, h2⟩ := cons_of h1
  obtain ⟨y2, t3, e3, h3⟩ := cons_of h2
  obtain ⟨y3, t4, e4, h4⟩ := cons_of h3
  obtain ⟨y4, t5, e5, h5⟩ := cons_of h4
  obtain ⟨y5, t6, e6, h6⟩ := cons_of h5
  obtain ⟨y6, t7, e7, h7⟩ := cons_of h6
  obtain ⟨y7, t8, e8, h8⟩ := cons_of h7
  obtain ⟨y8, t9, e9, h9⟩ := cons_of h8
  obtain ⟨y9, t10, e10, h10⟩ := cons_of h9
  obtain ⟨y10, t11, e11, h11⟩ := cons_of h10
  obtain ⟨y11, t12, e12, h12⟩ := cons_of h11
  obtain ⟨y12, t13, e13, h13⟩ := cons_of h12
  obtain ⟨y13, t14, e14, h14⟩ := cons_of h13
  obtain ⟨y14, t15, e15, h15⟩ := cons_of h14
  have e16 := List.eq_nil_of_length_eq_zero h15
  exact ⟨y0, y1, y2, y3, y4, y5, y6, y7, y8, y9, y10, y11, y12, y13, y14, by rw [e1, e2, e3, e4, e5, e6, e7, e8, e9, e10, e11, e12, e13, e14, e15, e16]⟩
end
theorem exec_mapUpdate {P : Program} {a : Act} {o : Oper} {ty : TypeId} {x y z : Operand} {p q v : Value} {w w' : World} (ho : o.op = .mapUpdate ty x y z) (hx : a.eval x = p) (hy : a.eval y = q) (hz : a.eval z = v) (hr : (Instr.mapUpdate ty p q v).run P w = .ok () w') : (execOp a.eval o).run P w = .ok .skip w' := by
  unfold execOp
  rw [ho]
  simp [hx, hy, hz, hr, Result.andThen]
section
variable {w w' : World} {P : List Nat} {g gw gm gr gd m : Nat} {O : List Nat} {K : KD}
theorem DeskIs.lay (h : DeskIs w g gw gm gr gd m O K) {F' : Int → ByteArray} {m' : Nat} (hm : MapW w' gm m' F') (hg : w.grownBy w' (some gm)) : DeskIs w' g gw gm gr gd m' O { K with F := F' } := by
  obtain ⟨a1, a2, a3, a4, a5, a6, a7, a8, a9, a10⟩ := h.nodup
  exact ⟨h.blk.grown hg (by simp; exact a2), h.wal.grown hg (by simp; exact a4), h.disk.kept (fun b hb => hg.block b (h.disk.lt hb) (fun e => a9 (by injection e with e; rw [← e]; exact hb))), hm, ⟨h.room.blk.grown hg (by simp; exact fun e => a6 e.symm), h.room.ok, h.room.size⟩, h.apart⟩
def layK (K : KD) (t : Int) (x : ByteArray) : KD := { K with F := updF K.F t x }
set_option maxRecDepth 100000 in
set_option maxHeartbeats 1000000 in
theorem klay_any (t : Int) (x : ByteArray) (h : DeskAt w P g gd m K) (hm : m < 1000000) (ht : I64 t) (hx : x ≠ .empty) (hs : x.size ≤ 100000) :
    Calls Tryz.prog 41 #[.pointer (some ⟨g, 0, none⟩), .int .i64 t, .string x] w fun e w' => e = .returned (.tuple #[]) ∧ DTurns P g gd (m + 1) (layK K t x) w w' := by
  obtain ⟨gw, gm, gr, O, rfl, h⟩ := h
  have HD := Lib.hid h
  have c1 := h.blk.cell 1
  simp [deskC] at c1
  have hglt := h.blk.lt
  have HT := Lib.hid ht
  have HX := Lib.hid hx
  have HS := Lib.hid hs
  have HM := Lib.hid hm
  clear h ht hx hs hm
  go_enter Tryz.func41, Tryz.ntmps41
  go_upto_region 0 with fail
  refine wp_region_store 6 9 14 (fun i => match i with | 0 => .pointer (some ⟨g, 0, none⟩) | 1 => .pointer (some ⟨g, 0, none⟩) | 2 => .pointer (some ⟨g, 1, none⟩) | 3 => .map (some gm) | 4 => .int .i64 t | 5 => .int .i64 t | 6 => .string x | 7 => .string x | _ => .agg #[.int .i64 t, .string x]) (fun w3 => Below w.heap.size w w3) (fun w3 => DTurns (g :: gw :: gm :: gr :: O) g gd (m + 1) (layK K t x) w w3) (by kernel_rfl) (by kernel_rfl) rfl (by kernel_rfl) rfl (by simp) (fun w3 w4 h1 hg => h1.trans ((below_by hg).mono h1.size)) (Below.refl _ _) ?hops ?hlast ?hK
  case hops =>
    intro i hi y w' hF hJw hw
    rcases (show i = 0 ∨ i = 1 ∨ i = 2 ∨ i = 3 ∨ i = 4 ∨ i = 5 ∨ i = 6 ∨ i = 7 ∨ i = 8 by omega) with rfl | rfl | rfl | rfl | rfl | rfl | rfl | rfl | rfl
    · have e3 : y.tmps[0]?.getD undef = .pointer (some ⟨g, 0, none⟩) := hF.get 0 (by omega)
      clear hF hJw hw
      refine wpOp_value (v := .pointer (some ⟨g, 0, none⟩)) (w' := w') rfl rfl ?_ ⟨rfl, by_refl _ _⟩
      go_simp
    · have e1 : y.tmps[6]?.getD undef = .pointer (some ⟨g, 0, none⟩) := hw 0 (of_decide_eq_true (by kernel_rfl)) (by omega)
      clear hF hJw hw
      refine wpOp_value (v := .pointer (some ⟨g, 0, none⟩)) (w' := w') rfl rfl ?_ ⟨rfl, by_refl _ _⟩
      go_simp
    · have e1 : y.tmps[7]?.getD undef = .pointer (some ⟨g, 0, none⟩) := hw 1 (of_decide_eq_true (by kernel_rfl)) (by omega)
      clear hF hJw hw
      refine wpOp_value (v := .pointer (some ⟨g, 1, none⟩)) (w' := w') rfl rfl ?_ ⟨rfl, by_refl _ _⟩
      go_simp
    · have e1 : y.tmps[8]?.getD undef = .pointer (some ⟨g, 1, none⟩) := hw 2 (of_decide_eq_true (by kernel_rfl)) (by omega)
      have c1' : w'.cell? ⟨g, 1, none⟩ = some (.map (some gm)) := (hJw.cell (p := ⟨g, 1, none⟩) hglt).trans c1
      clear hF hJw hw
      refine wpOp_value (v := .map (some gm)) (w' := w') rfl rfl ?_ ⟨rfl, by_refl _ _⟩
      go_simp
    · have e3 : y.tmps[1]?.getD undef = .int .i64 t := hF.get 1 (by omega)
      clear hF hJw hw
      refine wpOp_value (v := .int .i64 t) (w' := w') rfl rfl ?_ ⟨rfl, by_refl _ _⟩
      go_simp
    · have e3 : y.tmps[1]?.getD undef = .int .i64 t := hF.get 1 (by omega)
      clear hF hJw hw
      refine wpOp_value (v := .int .i64 t) (w' := w') rfl rfl ?_ ⟨rfl, by_refl _ _⟩
      go_simp
    · have e3 : y.tmps[2]?.getD undef = .string x := hF.get 2 (by omega)
      clear hF hJw hw
      refine wpOp_value (v := .string x) (w' := w') rfl rfl ?_ ⟨rfl, by_refl _ _⟩
      go_simp
    · have e3 : y.tmps[12]?.getD undef = .string x := hw 6 (of_decide_eq_true (by kernel_rfl)) (by omega)
      clear hF hJw hw
      exact wpOp_call (f := 64) (args := #[.string x]) rfl rfl (by go_simp) ((clone_any x _ (by have := HS.out; omega)).mono fun e w'' ⟨he, hb⟩ => ⟨_, he, rfl, by_below hb (Nat.le_refl _)⟩)
    · have e1 : y.tmps[11]?.getD undef = .int .i64 t := hw 5 (of_decide_eq_true (by kernel_rfl)) (by omega)
      have e2 : y.tmps[13]?.getD undef = .string x := hw 7 (of_decide_eq_true (by kernel_rfl)) (by omega)
      clear hF hJw hw
      refine wpOp_value (v := .agg #[.int .i64 t, .string x]) (w' := w') rfl rfl ?_ ⟨rfl, by_refl _ _⟩
      go_simp
  case hlast =>
    intro y w3 hF hJw hall
    have e1 : y.tmps[9]?.getD undef = .map (some gm) := hall 3 (by omega)
    have e2 : y.tmps[10]?.getD undef = .int .i64 t := hall 4 (by omega)
    have e3 : y.tmps[14]?.getD undef = .agg #[.int .i64 t, .string x] := hall 8 (by omega)
    have HD3 := Lib.hid (HD.out.kept fun b hb => hJw.block b (HD.out.lt hb))
    obtain ⟨w4, hr, hm4, hg4⟩ := HD3.out.map.update HM.out HT.out HX.out
    exact wpOp_skip rfl rfl (exec_mapUpdate rfl (by simp [Act.eval, e1]) (by simp [Act.eval, e2]) (by simp [Act.eval, e3]) hr) ⟨rfl, DTurns.after hJw ⟨_, (HD3.out.lay hm4 hg4).at, fun _ hb => .inl hb, (Keep.refl _ _).by_in hg4 (fun b e => by cases e; simp)⟩⟩
  case hK =>
    intro y w2 hF _ hJ2
    have HJ2 := Lib.hid hJ2
    clear hJ2
    obtain ⟨tt, d⟩ := y
    obtain ⟨x0, x1, x2, x3, x4, x5, x6, x7, x8, x9, x10, x11, x12, x13, x14, rfl⟩ := arr15 tt hF.2.1
    obtain rfl : d = [] := hF.1
    clear hF
    go_wp2_with fail
    go_end0
    exact ⟨rfl, HJ2.out⟩
theorem DeskAt.mono {m' : Nat} (h : DeskAt w P g gd m K) (hm : m ≤ m') : DeskAt w P g gd m' K := by
  obtain ⟨gw, gm, gr, O, rfl, h⟩ := h
  exact ⟨gw, gm, gr, O, rfl, h.blk, h.wal, h.disk, h.map.mono hm, h.room, h.apart⟩
theorem DTurns.mono {m' : Nat} (h : DTurns P g gd m K w w') (hm : m ≤ m') : DTurns P g gd m' K w w' := by
  obtain ⟨P1, h1, h2, h3⟩ := h
  exact ⟨P1, h1.mono hm, h2, h3⟩
theorem DeskAt.drewN (h : DeskAt w P g gd m K) (d : Nat) : DeskAt (w.drewN d) P g gd m K := h.kept fun _ _ => rfl
theorem DTurns.drew {d : Nat} (h : DeskAt w P g gd m K) : DTurns P g gd m K w (w.drewN d) := ⟨P, h.drewN d, fun _ hb => .inl hb, (Keep.refl _ _).drewN d⟩
theorem DTurns.afterD {d : Nat} (h : DTurns P g gd m K (w.drewN d) w') : DTurns P g gd m K w w' := by
  obtain ⟨P1, h1, h2, h3⟩ := h
  exact ⟨P1, h1, h2, ((Keep.refl P w).drewN d).trans' h3⟩
def setE (K : KD) (t : Int) (x : ByteArray) : Int := if t = 1 ∨ t ∉ K.H then 15 else if x.size = 256 then 0 else 1
def setK (K : KD) (t : Int) (x : ByteArray) : KD := if t = 1 ∨ t ∉ K.H then K else if x.size = 256 then layK K t x else K
theorem room_i64 {w : World} {g n : Nat} {H : List Int} (h : RoomAt w g n H) {t : Int} (ht : t ∈ H) : I64 t ∧ 0 ≤ t ∧ t < (n : Int) := by
  have h1 := h.ok.range t ht
  have h2 := h.size
  unfold I64
  omega
theorem size_empty {x : ByteArray} (h : x.size = 256) : x ≠ .empty := fun e => by rw [e] at h; exact absurd h (by decide)
set_option maxRecDepth 100000 in
set_option maxHeartbeats 1000000 in
theorem kset_any (t : Int) (x : ByteArray) (h : DeskAt w P g gd m K) (hb0 : K.bad = 0) (hm : m < 1000000) (hs : x.size ≤ 100000) :
    Calls Tryz.prog 12 #[.pointer (some ⟨g, 0, none⟩), .int .i64 t, .string x] w fun e w' => e = .returned (.int .i64 (setE K t x)) ∧ DTurns P g gd (m + 1) (setK K t x) w w' := by
  have HK := Lib.hid h
  have HB := Lib.hid (kbad_any h)
  rw [hb0] at HB
  have HLY := Lib.hid (fun (w1 : World) (h1 : DeskAt w1 P g gd m K) (ht : I64 t) (hx : x ≠ .empty) => klay_any (w := w1) t x h1 hm ht hx hs)
  have HS := Lib.hid hs
  obtain ⟨gw, gm, gr, O, rfl, h⟩ := h
  have c2 := h.blk.cell 2
  simp [deskC] at c2
  have HU := Lib.hid (rused_any t h.room)
  have HI := Lib.hid (fun ht => room_i64 (t := t) h.room ht)
  have hsI : (x.size : Int) ≤ 100000 := by omega
  clear h
  by_cases h1 : t = 1
  · have hE : setE K t x = 15 := by unfold setE; rw [if_pos (.inl h1)]
    have hK : setK K t x = K := by unfold setK; rw [if_pos (.inl h1)]
    rw [hE, hK]
    clear hE hK
    subst h1
    go_enter Tryz.func12, Tryz.ntmps12
    go_wp2_with (go_at_call 26; refine HB.out.mono ?_; rintro e w1 ⟨rfl, rfl⟩)
    go_ret
    exact ⟨rfl, (DTurns.refl HK.out).mono (by omega)⟩
  · have h1' : (t == 1) = false := by simpa using h1
    by_cases h2 : t ∈ K.H
    · rw [show decide (t ∈ K.H) = true from decide_eq_true h2] at HU
      have HI2 := Lib.hid (HI.out h2)
      by_cases h3 : x.size = 256
      · have hE : setE K t x = 0 := by unfold setE; rw [if_neg (by simp [h1, h2]), if_pos h3]
        have hK : setK K t x = layK K t x := by unfold setK; rw [if_neg (by simp [h1, h2]), if_pos h3]
        rw [hE, hK]
        have h3I : (x.size : Int) = 256 := by omega
        have HXE := Lib.hid (size_empty h3)
        clear hE hK h3 h2
        go_enter Tryz.func12, Tryz.ntmps12
        go_wp2_with (first
          | (go_at_call 26; refine HB.out.mono ?_; rintro e w1 ⟨rfl, rfl⟩)
          | (go_at_call 43; refine HU.out.mono ?_; rintro e w1 ⟨rfl, d, rfl⟩)
          | (go_at_call 41; refine (HLY.out _ (HK.out.drewN _) HI2.out.1 HXE.out).mono ?_; rintro e w2 ⟨rfl, hT⟩))
        go_ret
        exact ⟨rfl, hT.afterD⟩
      · have hE : setE K t x = 1 := by unfold setE; rw [if_neg (by simp [h1, h2]), if_neg h3]
        have hK : setK K t x = K := by unfold setK; rw [if_neg (by simp [h1, h2]), if_neg h3]
        rw [hE, hK]
        have h3I : ¬ (x.size : Int) = 256 := by omega
        clear hE hK h3 h2
        go_enter Tryz.func12, Tryz.ntmps12
        go_wp2_with (first
          | (go_at_call 26; refine HB.out.mono ?_; rintro e w1 ⟨rfl, rfl⟩)
          | (go_at_call 43; refine HU.out.mono ?_; rintro e w1 ⟨rfl, d, rfl⟩))
        go_ret
        exact ⟨rfl, (DTurns.drew HK.out).mono (by omega)⟩
    · rw [show decide (t ∈ K.H) = false from decide_eq_false h2] at HU
      have hE : setE K t x = 15 := by unfold setE; rw [if_pos (.inr h2)]
      have hK : setK K t x = K := by unfold setK; rw [if_pos (.inr h2)]
      rw [hE, hK]
      clear hE hK h2
      go_enter Tryz.func12, Tryz.ntmps12
      go_wp2_with (first
        | (go_at_call 26; refine HB.out.mono ?_; rintro e w1 ⟨rfl, rfl⟩)
        | (go_at_call 43; refine HU.out.mono ?_; rintro e w1 ⟨rfl, d, rfl⟩))
      go_ret
      exact ⟨rfl, (DTurns.drew HK.out).mono (by omega)⟩
theorem RoomTurns.keep {w w' : World} {g n : Nat} {H : List Int} (h : RoomTurns w w' g n H) : Keep [g] w w' := (Keep.refl _ _).by_in h.by_ (fun b e => by cases e; simp)
def newK (K : KD) (k : Nat) (x : ByteArray) : KD := { K with H := putL (k : Int) K.H, F := updF K.F k x }
set_option maxRecDepth 100000 in
set_option maxHeartbeats 1000000 in
theorem knew_any (x : ByteArray) {k : Nat} (h : DeskAt w P g gd m K) (hb0 : K.bad = 0) (hm : m < 1000000) (hs : x.size ≤ 100000) (hk : Least K.H k) :
    Calls Tryz.prog 13 #[.pointer (some ⟨g, 0, none⟩), .string x] w fun e w' =>
      (x.size ≠ 256 ∧ e = .returned (.tuple #[.int .i64 0, .int .i64 1]) ∧ DTurns P g gd (m + 1) K w w') ∨
      (x.size = 256 ∧ k = K.S.now.length - 111 ∧ e = .returned (.tuple #[.int .i64 0, .int .i64 20]) ∧ DTurns P g gd (m + 1) K w w') ∨
      (x.size = 256 ∧ k < K.S.now.length - 111 ∧ e = .returned (.tuple #[.int .i64 (k : Int), .int .i64 0]) ∧ DTurns P g gd (m + 1) (newK K k x) w w') := by
  have HK := Lib.hid h
  have HB := Lib.hid (kbad_any h)
  rw [hb0] at HB
  have HLY := Lib.hid (fun (w1 : World) (K1 : KD) (P1 : List Nat) (h1 : DeskAt w1 P1 g gd m K1) (ht : I64 (k : Int)) (hx : x ≠ .empty) => klay_any (w := w1) (k : Int) x h1 hm ht hx hs)
  have hsI : (x.size : Int) ≤ 100000 := by omega
  by_cases h3 : x.size = 256
  · have h3I : (x.size : Int) = 256 := by omega
    have HXE := Lib.hid (size_empty h3)
    have H3 := Lib.hid h3
    clear h3 hs
    obtain ⟨gw, gm, gr, O, rfl, h⟩ := h
    have HD := Lib.hid h
    have c2 := h.blk.cell 2
    simp [deskC] at c2
    have HT := Lib.hid (rtake_any h.room hk)
    have HRS := Lib.hid h.room.size
    clear h
    go_enter Tryz.func13, Tryz.ntmps13
    go_wp2_with (go_at_call 26; refine HB.out.mono ?_; rintro e w1 ⟨rfl, rfl⟩)
    refine HT.out.mono ?_
    rintro e w2 (⟨hlt, rfl, hT2⟩ | ⟨hlt, rfl, rfl⟩)
    · have HT2 := Lib.hid hT2
      have HLT := Lib.hid hlt
      clear hT2 hlt
      have HK2 : Hid (DTurns (g :: gw :: gm :: gr :: O) g gd m { K with H := putL (k : Int) K.H } w1 w2) := Lib.hid (by
        obtain ⟨a1, a2, a3, a4, a5, a6, a7, a8, a9, a10⟩ := HD.out.nodup
        have hk2 := HT2.out.keep
        have hD := HD.out
        refine ⟨_, DeskIs.at (gw := gw) (gm := gm) (gr := gr) (O := O) ⟨hD.blk.keep hk2 (by simpa using a3), hD.wal.keep hk2 (by simpa using a5), hD.disk.far hk2 (fun b hb => by simp; rintro rfl; exact a10 hb), hD.map.keep hk2 (by simpa using a6), HT2.out.room, hD.apart⟩, fun _ hb => .inl hb, hk2.mono (fun b hb => .inl (by simp at hb; subst hb; simp))⟩)
      have HKI : Hid (I64 (k : Int)) := Lib.hid (by have h1 := HLT.out; have h2 := HRS.out; unfold I64; omega)
      have HK3 : Hid (Calls Tryz.prog 41 #[.pointer (some ⟨g, 0, none⟩), .int .i64 (k : Int), .string x] w2 fun e w' => e = .returned (.tuple #[]) ∧ DTurns (g :: gw :: gm :: gr :: O) g gd (m + 1) (newK K k x) w1 w') := Lib.hid (by
        obtain ⟨P2, hK2, hP2, hk2⟩ := HK2.out
        refine (HLY.out w2 _ P2 hK2 HKI.out HXE.out).mono ?_
        rintro e w3 ⟨rfl, P3, hK3, hP3, hk3⟩
        refine ⟨rfl, P3, hK3, fun b hb => ?_, hk2.trans hk3 hP2⟩
        rcases hP3 b hb with h | h
        · exact hP2 b h
        · exact .inr (Nat.le_trans hk2.size h))
      clear HK2
      go_wp2_with (go_at_call 41; refine HK3.out.mono ?_; rintro e w3 ⟨rfl, hT⟩)
      go_ret2
      exact .inr (.inr ⟨H3.out, HLT.out, rfl, hT⟩)
    · have HLT := Lib.hid hlt
      clear hlt
      go_wp2_with fail
      go_ret2
      exact .inr (.inl ⟨H3.out, HLT.out, rfl, (DTurns.refl HK.out).mono (by omega)⟩)
  · have h3I : ¬ (x.size : Int) = 256 := by omega
    have H3 := Lib.hid h3
    clear h3
    go_enter Tryz.func13, Tryz.ntmps13
    go_wp2_with (go_at_call 26; refine HB.out.mono ?_; rintro e w1 ⟨rfl, rfl⟩)
    go_ret2
    exact .inl ⟨H3.out, rfl, (DTurns.refl HK.out).mono (by omega)⟩
def getR (K : KD) (t : Int) : ByteArray × Int := if K.F t ≠ .empty then (K.F t, 0) else if 0 ≤ t ∧ t < (K.S.now.length : Int) - 111 then (K.S.read (111 + t), K.S.errR (111 + t)) else (.empty, 15)
set_option maxRecDepth 100000 in
set_option maxHeartbeats 1000000 in
theorem kget_any (t : Int) (h : DeskAt w P g gd m K) (hb0 : K.bad = 0) (hup : K.up = true) (h1 : 111 ≤ K.S.now.length) (h2 : K.S.now.length ≤ 2000) (hz : ∀ x ∈ K.S.now, x.size ≤ 100000) (hF : (K.F t).size ≤ 100000) (ht : I64 t) :
    Calls Tryz.prog 33 #[.pointer (some ⟨g, 0, none⟩), .int .i64 t] w fun e w' => e = .returned (.tuple #[.string (getR K t).1, .int .i64 (getR K t).2]) ∧ Below w.heap.size w w' := by
  have HB := Lib.hid (kbad_any h)
  rw [hb0] at HB
  obtain ⟨gw, gm, gr, O, rfl, h⟩ := h
  have c0 := h.blk.cell 0
  have c1 := h.blk.cell 1
  simp [deskC] at c0 c1
  have HL := h.map.look ht
  have hglt := h.blk.lt
  have HF := Lib.hid hF
  have HW : Hid (∀ w', Below w.heap.size w w' → Calls Tryz.prog 58 #[.pointer (some ⟨gw, 0, none⟩), .int .i64 t] w' fun e w'' => e = .returned (if 0 ≤ t ∧ t < (K.S.now.length : Int) - 111 then .tuple #[.string (K.S.read (111 + t)), .int .i64 (K.S.errR (111 + t))] else .tuple #[.string ⟨#[]⟩, .int .i64 15]) ∧ Below w'.heap.size w' w'') :=
    Lib.hid (fun w' hb => wread_any t (by have := h.wal.below hb h.wal.lt; rw [hup] at this; exact this) (h.disk.below hb) rfl h1 h2 hz)
  have HCL : Hid (∀ w', Calls Tryz.prog 64 #[.string (K.F t)] w' fun e w'' => e = .returned (.string (K.F t)) ∧ Below w'.heap.size w' w'') := Lib.hid (fun w' => clone_any (K.F t) w' (by have := HF.out; omega))
  clear h hz h1 h2 hF ht
  by_cases hE : K.F t = .empty
  · have hR : getR K t = if 0 ≤ t ∧ t < (K.S.now.length : Int) - 111 then (K.S.read (111 + t), K.S.errR (111 + t)) else (.empty, 15) := by unfold getR; rw [if_neg (by simp [hE])]
    have hz0 : lookW K.F t = zeroW := by unfold lookW; rw [if_pos hE]
    have hd0 : decide (K.F t ≠ ByteArray.empty) = false := by simp [hE]
    rw [hz0, hd0] at HL
    unfold zeroW at HL
    obtain ⟨r1, hr1⟩ : ∃ r, r = (getR K t).1 := ⟨_, rfl⟩
    obtain ⟨r2, hr2⟩ : ∃ r, r = (getR K t).2 := ⟨_, rfl⟩
    have HW2 : Hid (∀ w', Below w.heap.size w w' → Calls Tryz.prog 58 #[.pointer (some ⟨gw, 0, none⟩), .int .i64 t] w' fun e w'' => e = .returned (.tuple #[.string r1, .int .i64 r2]) ∧ Below w'.heap.size w' w'') := Lib.hid (fun w' hb => (HW.out w' hb).mono (fun e w'' ⟨he, hb'⟩ => ⟨by
      rw [he, hr1, hr2, hR]
      split <;> rfl, hb'⟩))
    rw [← hr1, ← hr2]
    clear HW hR hr1 hr2 hz0 hd0 HCL HF hE
    go_enter Tryz.func33, Tryz.ntmps33
    go_wp2_with (go_at_call 26; refine HB.out.mono ?_; rintro e w1 ⟨rfl, rfl⟩)
    refine (HW2.out _ ((Below.refl _ _).alloc (Nat.le_refl _) _)).mono ?_
    rintro e w2 ⟨rfl, hb2⟩
    go_wp2_with fail
    go_ret2
    exact ⟨rfl, ((Below.refl _ _).alloc (Nat.le_refl _) _).trans (hb2.mono (by simp))⟩
  · have hR : getR K t = (K.F t, 0) := by unfold getR; rw [if_pos hE]
    have hz0 : lookW K.F t = writeV t (K.F t) := by unfold lookW; rw [if_neg hE]
    have hd0 : decide (K.F t ≠ ByteArray.empty) = true := by simp [hE]
    rw [hz0, hd0] at HL
    unfold writeV at HL
    rw [hR]
    obtain ⟨x, hx⟩ : ∃ x, x = K.F t := ⟨_, rfl⟩
    rw [← hx] at HL HCL ⊢
    clear HW hR hz0 hd0 HF hE hx
    go_enter Tryz.func33, Tryz.ntmps33
    go_wp2_with (first
      | (go_at_call 26; refine HB.out.mono ?_; rintro e w1 ⟨rfl, rfl⟩)
      | (go_at_call 64; refine (HCL.out _).mono ?_; rintro e w2 ⟨rfl, hb2⟩))
    go_ret2
    exact ⟨rfl, ((Below.refl _ _).alloc (Nat.le_refl _) _).trans (hb2.mono (by simp))⟩
end
end Go.Proofs.YtiagofgcinlnhaaGreatDoor
