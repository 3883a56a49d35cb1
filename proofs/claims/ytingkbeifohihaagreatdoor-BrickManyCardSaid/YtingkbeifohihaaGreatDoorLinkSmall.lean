/-
  Package chain: fits, Need, follows; a row of links in memory. No statement is proved here.
-/
import Derived.Test.YtingkbeifohihaaGreatDoorDeskBack
import Derived.Test.YtingkbeifohihaaGreatDoorGrow
import Derived.Test.YtingkbeifohihaaGreatDoorRoomRead
import Derived.BigQuiet
import Derived.Deep.QuietTactic
namespace Go.Proofs.YtingkbeifohihaaGreatDoor
open Go.RowKit
inductive MK where
 | mark (st : Nat) (sy : Int) (F : Int -> ByteArray) (H : List Int)
 | held (b : Nat) (o : Obj)
def qS (w : World) (P : List Nat) (g m n : Nat) : MK -> Prop
 | .mark st sy F H => ∃ mb rb, st ∉ P /\ mb ∉ P /\ rb ∉ P /\ aG w st 144 #[.pointer (some ⟨g, 0, none⟩), .int .i64 sy, .map (some mb), .pointer (some ⟨rb, 0, none⟩)] /\ eX w mb m F /\ aU w rb n H
 | .held b o => b ∉ P /\ w.heap[b]? = some o
theorem wG {w : World} {b : Nat} {o : Obj} (h : w.heap[b]? = some o) : b < w.heap.size := (Array.getElem?_eq_some_iff.1 h).1
theorem qS.turn {w w' : World} {P P' : List Nat} {g m m' n : Nat} {M : MK} (h : qS w P g m n M) (hP : ∀ b ∈ P', b ∈ P \/ w.heap.size <= b) (hk : aR P w w') (hm : m <= m') : qS w' P' g m' n M := by
 have f : ∀ b, b ∉ P -> b < w.heap.size -> b ∉ P' := fun b hb hl hb' => by
  rcases hP b hb' with h | h
  ·exact hb h
  ·omega
 cases M with
 | mark st sy F H =>
   obtain ⟨mb, rb, h1, h2, h3, h4, h5, h6⟩ := h
   exact ⟨mb, rb, f _ h1 h4.lt, f _ h2 h5.lt, f _ h3 h6.lt, h4.keep hk h1, (h5.keep hk h2).mono hm, h6.keep hk h3⟩
 | held b o =>
   obtain ⟨h1, h2⟩ := h
   exact ⟨f _ h1 (wG h2), (hk.block b (wG h2) h1).trans h2⟩
theorem qS.at {w : World} {P : List Nat} {g m n st : Nat} {sy : Int} {F : Int -> ByteArray} {H : List Int} (h : qS w P g m n (.mark st sy F H)) : Cy w 0 st g m n sy F H := by
 obtain ⟨mb, rb, h1, h2, h3, h4, h5, h6⟩ := h
 exact ⟨mb, rb, Nat.zero_le _, Nat.zero_le _, Nat.zero_le _, h4, h5, h6⟩
def eK (w0 w : World) (g gd m N : Nat) (K : KD) (Ms : List MK) : Prop :=
 ∃ P, bL w P g gd m K /\ (∀ b ∈ P, w0.heap.size <= b) /\ Below w0.heap.size w0 w /\ ∀ M ∈ Ms, qS w P g m (N - 111) M
section
variable {w0 w w' : World} {g gd m N : Nat} {K K' : KD} {h : List ByteArray} {c : Nat} {Ms : List MK} {P : List Nat}
theorem eK.of (s : Dm w0 w g gd m K) : eK w0 w g gd m N K [] := by
 obtain ⟨P, h1, h2, h3⟩ := s
 exact ⟨P, h1, h2, h3, fun _ h => by cases h⟩
theorem eK.st (s : eK w0 w g gd m N K Ms) : Dm w0 w g gd m K := by
 obtain ⟨P, h1, h2, h3, _⟩ := s
 exact ⟨P, h1, h2, h3⟩
theorem eK.turn {m' : Nat} (h2 : ∀ b ∈ P, w0.heap.size <= b) (h3 : Below w0.heap.size w0 w) (h4 : ∀ M ∈ Ms, qS w P g m (N - 111) M) (hm : m <= m') (ht : bC P g gd m' K' w w') : eK w0 w' g gd m' N K' Ms := by
 obtain ⟨P', a1, a2, a3⟩ := ht
 refine ⟨P', a1, fun b hb => ?_, h3.trans (a3.below h2 h3.size), fun M hM => (h4 M hM).turn a2 a3 hm⟩
 rcases a2 b hb with h | h
 ·exact h2 b h
 ·exact Nat.le_trans h3.size h
theorem eK.below (s : eK w0 w g gd m N K Ms) (hb : Below w.heap.size w w') : eK w0 w' g gd m N K Ms := by
 obtain ⟨P, h1, h2, h3, h4⟩ := s
 exact eK.turn h2 h3 h4 (Nat.le_refl _) (bC.of_below h1 hb)
theorem eK.held {b : Nat} {o : Obj} (s : eK w0 w g gd m N K Ms) (hM : MK.held b o ∈ Ms) : w.heap[b]? = some o := by
 obtain ⟨P, h1, h2, h3, h4⟩ := s
 exact (h4 _ hM).2
theorem eK.hold {b : Nat} {o : Obj} (s : eK w0 w g gd m N K Ms) (hb : Below w.heap.size w w') (hl : w.heap.size <= b) (ho : w'.heap[b]? = some o) : eK w0 w' g gd m N K (.held b o :: Ms) := by
 obtain ⟨P, h1, h2, h3, h4⟩ := s
 refine ⟨P, h1.below hb, h2, h3.trans (hb.mono h3.size), fun M hM => ?_⟩
 rcases List.mem_cons.1 hM with rfl | hM
 ·exact ⟨fun hm => by have := h1.lt hm; omega, ho⟩
 ·exact (h4 M hM).turn (fun b hb => .inl hb) (aR.of_below hb) (Nat.le_refl _)
theorem eK.less {Ms' : List MK} (s : eK w0 w g gd m N K Ms) (h : ∀ M ∈ Ms', M ∈ Ms) : eK w0 w g gd m N K Ms' := by
 obtain ⟨P, h1, h2, h3, h4⟩ := s
 exact ⟨P, h1, h2, h3, fun M hM => h4 M (h M hM)⟩
theorem eK.mono {m' : Nat} (s : eK w0 w g gd m N K Ms) (h : m <= m') : eK w0 w g gd m' N K Ms := by
 obtain ⟨P, h1, h2, h3, h4⟩ := s
 exact eK.turn h2 h3 h4 h ((bC.refl h1).mono h)
theorem Iq {F : Int -> ByteArray} {H H' : List Int} (hu : ∀ t, F t ≠ .empty -> t ∈ H /\ t ≠ 1 /\ (F t).size = 256) : ∀ t, uR H' F t ≠ .empty -> t ∈ H' /\ t ≠ 1 /\ (uR H' F t).size = 256 := by
 intro t he
 unfold uR at he ⊢
 by_cases hm : t ∈ H'
 ·rw [if_pos hm] at he ⊢
  exact ⟨hm, (hu t he).2⟩
 ·rw [if_neg hm] at he
  exact absurd rfl he
theorem bU.use (r : bU N K h c) {H' : List Int} (ho : oZ (N - 111) H') (h0 : (0 : Int) ∈ H') (h1 : (1 : Int) ∈ H') : bU N (Fl K H') h c := r.with ho h0 h1 (Iq r.ok.used)
theorem Wz (s : eK w0 w g gd m N K Ms) (r : bU N K h c) (hm : m < 1000000) (t : Int) {x : ByteArray} (hx : x.size <= 100000) :
  Calls Tryz.prog 76 #[.pointer (some ⟨g, 0, none⟩), .int .i64 t, .string x] w fun e w' => e = .returned (.int .i64 (oN K t x)) /\ eK w0 w' g gd (m + 1) N (nZ K t x) Ms := by
 obtain ⟨P, h1, h2, h3, h4⟩ := s
 refine (Tc t x h1 r.bad hm hx).mono ?_
 rintro e w' ⟨rfl, ht⟩
 exact ⟨rfl, eK.turn h2 h3 h4 (Nat.le_succ _) ht⟩
theorem Xa (s : eK w0 w g gd m N K Ms) (r : bU N K h c) (hm : m < 1000000) {k : Nat} (hk : gS K.H k) {x : ByteArray} (hx : x.size = 256) :
  Calls Tryz.prog 47 #[.pointer (some ⟨g, 0, none⟩), .string x] w fun e w' =>
   (k = N - 111 /\ e = .returned (.tuple #[.int .i64 0, .int .i64 20]) /\ eK w0 w' g gd (m + 1) N K Ms) \/
   (k < N - 111 /\ e = .returned (.tuple #[.int .i64 (k : Int), .int .i64 0]) /\ eK w0 w' g gd (m + 1) N (nJ K k x) Ms) := by
 obtain ⟨P, h1, h2, h3, h4⟩ := s
 refine (Td x h1 r.bad hm (by omega) hk).mono ?_
 have hl := r.ok.len
 rintro e w' (⟨hn, _⟩ | ⟨_, hn, rfl, ht⟩ | ⟨_, hn, rfl, ht⟩)
 ·exact absurd hx hn
 ·exact .inl ⟨by omega, rfl, eK.turn h2 h3 h4 (Nat.le_succ _) ht⟩
 ·exact .inr ⟨by omega, rfl, eK.turn h2 h3 h4 (Nat.le_succ _) ht⟩
theorem Ss (s : eK w0 w g gd m N K Ms) (r : bU N K h c) (A : Option Addr) (q d : Nat) (l : List Int) (hl : l.length = q) (hx : dZ w w.heap.size A l) (hq : q <= 100000) :
  Calls Tryz.prog 78 #[.pointer (some ⟨g, 0, none⟩), .slice A q d] w fun e w' => e = .returned (.int .i64 (uP K l)) /\ eK w0 w' g gd m N (uQ K l) Ms := by
 obtain ⟨P, h1, h2, h3, h4⟩ := s
 refine (Ns A q d l h1 r.bad hl hx hq).mono ?_
 rintro e w' ⟨rfl, ht⟩
 exact ⟨rfl, eK.turn h2 h3 h4 (Nat.le_refl _) ht⟩
theorem Su (s : eK w0 w g gd m N K Ms) (r : bU N K h c) :
  Calls Tryz.prog 45 #[.pointer (some ⟨g, 0, none⟩)] w fun e w' => ∃ st, e = .returned (.agg #[.pointer (some ⟨st, 0, none⟩)]) /\ eK w0 w' g gd m N K (.mark st K.syncs K.F K.H :: Ms) /\ Below w.heap.size w w' := by
 obtain ⟨P, h1, h2, h3, h4⟩ := s
 refine (Cz h1).mono ?_
 rintro e w' ⟨st, rfl, hk, hb⟩
 rw [r.ok.len] at hk
 obtain ⟨mb, rb, k1, k2, k3, k4, k5, k6⟩ := hk
 have hlt : ∀ b, w.heap.size <= b -> b ∉ P := fun b hl hm => by have := h1.lt hm; omega
 refine ⟨st, rfl, ⟨P, h1.below hb, h2, h3.trans (hb.mono h3.size), fun M hM => ?_⟩, hb⟩
 rcases List.mem_cons.1 hM with rfl | hM
 ·exact ⟨mb, rb, hlt _ k1, hlt _ k2, hlt _ k3, k4, k5, k6⟩
 ·exact (h4 M hM).turn (fun b hb => .inl hb) (aR.of_below hb) (Nat.le_refl _)
theorem Fj (s : eK w0 w g gd m N K Ms) (r : bU N K h c) {st : Nat} {sy : Int} {F : Int -> ByteArray} {H : List Int} (hM : MK.mark st sy F H ∈ Ms) (hsy : sy = K.syncs) :
  Calls Tryz.prog 49 #[.pointer (some ⟨g, 0, none⟩), .agg #[.pointer (some ⟨st, 0, none⟩)]] w fun e w' => e = .returned (.tuple #[]) /\ eK w0 w' g gd m N (nW K F H) Ms := by
 obtain ⟨P, h1, h2, h3, h4⟩ := s
 have hk := (h4 _ hM).at
 rw [<- r.ok.len] at hk
 refine (Nr h1 hk hsy).mono ?_
 rintro e w' ⟨rfl, ht⟩
 exact ⟨rfl, eK.turn h2 h3 h4 (Nat.le_refl _) ht⟩
end
structure LK where
 gen : Int
 tag : Int
 num : Int
 refs : Int
 next : Int
 data : ByteArray
 at_ : Int
def LK.vals (x : LK) : List Value := [.int .i64 x.gen, .int .i64 x.tag, .int .i64 x.num, .int .i64 x.refs, .int .i64 x.next, .string x.data, .int .i64 x.at_]
def LK.val (x : LK) : Value := .agg #[.int .i64 x.gen, .int .i64 x.tag, .int .i64 x.num, .int .i64 x.refs, .int .i64 x.next, .string x.data, .int .i64 x.at_]
def LK.put (x : LK) (t : Int) : LK := ⟨x.gen, x.tag, x.num, x.refs, x.next, x.data, t⟩
def LK.zero : LK := ⟨0, 0, 0, 0, 0, .empty, 0⟩
def lR (gen tag : Int) : Bool := decide (1 <= gen /\ gen <= 3 /\ 0 <= tag /\ tag <= 200)
structure LK.Ok (x : LK) : Prop where
 fit : 1 <= x.gen /\ x.gen <= 3 /\ 0 <= x.tag /\ x.tag <= 200
 num : 0 <= x.num /\ x.num < 256
 refs : 0 <= x.refs /\ x.refs <= 60000
 next : 0 <= x.next /\ x.next < 65536
 data : x.data.size <= 236
def LK.bytes (x : LK) : List UInt8 := aD 1 2 ++ (aD 1 x.gen.toNat ++ (aD 1 x.tag.toNat ++ (aD 1 x.num.toNat ++ (aD 2 x.refs.toNat ++ (aD 2 x.next.toNat ++ cC x.data)))))
theorem LK.len (x : LK) : x.bytes.length = 10 + x.data.size := by
 unfold LK.bytes
 simp only [List.length_append, aL, qG]
 omega
def LK.text (x : LK) : List UInt8 := gU 256 x.bytes ++ aD 4 (tB (gU 256 x.bytes))
theorem LK.Ok.small {x : LK} (h : x.Ok) : (x.bytes.length : Int) <= 256 - 4 := by rw [x.len]; have := h.data; omega
theorem LK.Ok.body_len {x : LK} (h : x.Ok) : (gU 256 x.bytes).length = 252 := by have := lU h.small; omega
theorem LK.Ok.text_len {x : LK} (h : x.Ok) : x.text.length = 256 := by unfold LK.text; rw [List.length_append, h.body_len, aL]
theorem LK.Ok.sealed {x : LK} (h : x.Ok) : oW 256 x.bytes = (x.text, 0) := sK (by omega) (by omega) h.small
theorem LK.opened (x : LK) : fJ x.text = (gU 256 x.bytes, 0) := yH _
def Sp : Nat -> Rd -> Rd
 | 0, s => (s.num 1).2
 | 1, s => (s.num 1).2
 | 2, s => (s.num 1).2
 | 3, s => (s.num 1).2
 | 4, s => (s.num 2).2
 | 5, s => (s.num 2).2
 | _, s => s.text.2
def iO (b : ByteArray) : Nat -> Rd
 | 0 => ⟨bs (fJ b.data.toList).1, 0⟩
 | n + 1 => Sp n (iO b n)
def Qv (b : ByteArray) : LK := ⟨((iO b 1).num 1).1, ((iO b 2).num 1).1, ((iO b 3).num 1).1, ((iO b 4).num 2).1, ((iO b 5).num 2).1, (iO b 6).text.1, 0⟩
def Yn (b : ByteArray) : Bool := decide ((iO b 7).fin.1 = 0) && decide (((iO b 0).num 1).1 = 2) && lR (Qv b).gen (Qv b).tag && decide ((Qv b).refs <= 60000) && decide ((Qv b).data.size <= 236)
def bJ (b : ByteArray) : LK × Bool := if (fJ b.data.toList).2 ≠ 0 then (LK.zero, false) else (Qv b, Yn b)
theorem pO {k : Nat} {n : Int} (r : List UInt8) (h0 : 0 <= n) (h1 : n.toNat < 256 ^ k) (h2 : n <= 9223372036854775807) : (Rd.mk (bs (aD k n.toNat ++ r)) 0).num k = (n, (⟨bs r, 0⟩ : Rd)) := by
 rw [qU k n.toNat r h1 (by omega), Int.toNat_of_nonneg h0]
theorem LK.Ok.reads {x : LK} (h : x.Ok) : bJ (bs x.text) = ((x.put 0), true) := by
 obtain ⟨⟨f1, f2, f3, f4⟩, ⟨n1, n2⟩, ⟨u1, u2⟩, ⟨x1, x2⟩, hd⟩ := h
 obtain ⟨z, hz⟩ : ∃ z, gU 256 x.bytes = x.bytes ++ List.replicate z 0 := ⟨_, rfl⟩
 have e0 : iO (bs x.text) 0 = ⟨bs (x.bytes ++ List.replicate z 0), 0⟩ := by
  show (⟨bs (fJ (bs x.text).data.toList).1, 0⟩ : Rd) = _
  rw [gA, LK.opened, hz]
 have hb : x.bytes ++ List.replicate z 0 = aD 1 (2 : Int).toNat ++ (aD 1 x.gen.toNat ++ (aD 1 x.tag.toNat ++ (aD 1 x.num.toNat ++ (aD 2 x.refs.toNat ++ (aD 2 x.next.toNat ++ (cC x.data ++ List.replicate z 0)))))) := by
  unfold LK.bytes
  simp only [List.append_assoc]
  rfl
 rw [hb] at e0
 have k0 : ∃ r, (iO (bs x.text) 0).num 1 = (2, r) /\ r = ⟨bs (aD 1 x.gen.toNat ++ (aD 1 x.tag.toNat ++ (aD 1 x.num.toNat ++ (aD 2 x.refs.toNat ++ (aD 2 x.next.toNat ++ (cC x.data ++ List.replicate z 0)))))), 0⟩ := ⟨_, by rw [e0]; exact pO _ (by omega) (by decide) (by omega), rfl⟩
 obtain ⟨r0, k0, g0⟩ := k0
 have e1 : iO (bs x.text) 1 = r0 := congrArg Prod.snd k0
 have k1 : ∃ r, (iO (bs x.text) 1).num 1 = (x.gen, r) /\ r = ⟨bs (aD 1 x.tag.toNat ++ (aD 1 x.num.toNat ++ (aD 2 x.refs.toNat ++ (aD 2 x.next.toNat ++ (cC x.data ++ List.replicate z 0))))), 0⟩ := ⟨_, by rw [e1, g0]; exact pO _ (by omega) (by omega) (by omega), rfl⟩
 obtain ⟨r1, k1, g1⟩ := k1
 have e2 : iO (bs x.text) 2 = r1 := congrArg Prod.snd k1
 have k2 : ∃ r, (iO (bs x.text) 2).num 1 = (x.tag, r) /\ r = ⟨bs (aD 1 x.num.toNat ++ (aD 2 x.refs.toNat ++ (aD 2 x.next.toNat ++ (cC x.data ++ List.replicate z 0)))), 0⟩ := ⟨_, by rw [e2, g1]; exact pO _ (by omega) (by omega) (by omega), rfl⟩
 obtain ⟨r2, k2, g2⟩ := k2
 have e3 : iO (bs x.text) 3 = r2 := congrArg Prod.snd k2
 have k3 : ∃ r, (iO (bs x.text) 3).num 1 = (x.num, r) /\ r = ⟨bs (aD 2 x.refs.toNat ++ (aD 2 x.next.toNat ++ (cC x.data ++ List.replicate z 0))), 0⟩ := ⟨_, by rw [e3, g2]; exact pO _ (by omega) (by omega) (by omega), rfl⟩
 obtain ⟨r3, k3, g3⟩ := k3
 have e4 : iO (bs x.text) 4 = r3 := congrArg Prod.snd k3
 have k4 : ∃ r, (iO (bs x.text) 4).num 2 = (x.refs, r) /\ r = ⟨bs (aD 2 x.next.toNat ++ (cC x.data ++ List.replicate z 0)), 0⟩ := ⟨_, by rw [e4, g3]; exact pO _ (by omega) (by omega) (by omega), rfl⟩
 obtain ⟨r4, k4, g4⟩ := k4
 have e5 : iO (bs x.text) 5 = r4 := congrArg Prod.snd k4
 have k5 : ∃ r, (iO (bs x.text) 5).num 2 = (x.next, r) /\ r = ⟨bs (cC x.data ++ List.replicate z 0), 0⟩ := ⟨_, by rw [e5, g4]; exact pO _ (by omega) (by omega) (by omega), rfl⟩
 obtain ⟨r5, k5, g5⟩ := k5
 have e6 : iO (bs x.text) 6 = r5 := congrArg Prod.snd k5
 have k6 : (iO (bs x.text) 6).text = (x.data, ⟨bs (List.replicate z 0), 0⟩) := by rw [e6, g5]; exact Xf _ _ (by omega)
 have e7 : iO (bs x.text) 7 = ⟨bs (List.replicate z 0), 0⟩ := congrArg Prod.snd k6
 have k7 : (iO (bs x.text) 7).fin.1 = 0 := by rw [e7]; exact congrArg Prod.fst (Zp z)
 have eL : Qv (bs x.text) = (x.put 0) := by
  unfold Qv
  rw [k1, k2, k3, k4, k5, k6]
  rfl
 have eO : Yn (bs x.text) = true := by
  unfold Yn
  rw [eL, k7, k0]
  simp only [lR, LK.put]
  simp [f1, f2, f3, f4, u2, hd]
 unfold bJ
 rw [gA, LK.opened, if_neg (by simp), eL, eO]
def Sq (x : LK) : List LK -> Bool
 | [] => true
 | a :: _ => decide (x.gen = a.gen /\ x.tag = a.tag /\ x.refs = 0 /\ x.data ≠ .empty)
def eF (x : LK) (l : List LK) : Bool := if x.num ≠ (l.length : Int) \/ x.next ≠ 0 /\ x.data.size ≠ 236 then false else Sq x l
def dX (G : Int -> ByteArray × Int) : Nat -> List LK -> Int -> List LK × Int
 | 0, _, _ => ([], 25)
 | n + 1, l, t =>
   if (G t).2 ≠ 0 then ([], (G t).2)
   else if (bJ (G t).1).2 = false \/ eF (bJ (G t).1).1 l = false then ([], 25)
   else if (bJ (G t).1).1.next = 0 then (l ++ [((bJ (G t).1).1.put t)], 0)
   else dX G n (l ++ [((bJ (G t).1).1.put t)]) (bJ (G t).1).1.next
theorem tL (G : Int -> ByteArray × Int) : ∀ (n : Nat) (l : List LK) (t : Int), (dX G n l t).1.length <= l.length + n
 | 0, l, t => by simp [dX]
 | n + 1, l, t => by
   unfold dX
   split
   ·simp
   ·split
    ·simp
    ·split
     ·rw [List.length_append]
      simp only [List.length_cons, List.length_nil]
      omega
     ·have := tL G n (l ++ [((bJ (G t).1).1.put t)]) (bJ (G t).1).1.next
      simp only [List.length_append, List.length_cons, List.length_nil] at this
      omega
theorem sA (G : Int -> ByteArray × Int) : ∀ (n : Nat) (l : List LK) (t : Int), (dX G n l t).2 = 0 -> l.length < (dX G n l t).1.length
 | 0, l, t => by simp [dX]
 | n + 1, l, t => by
   unfold dX
   split
   ·rename_i h; intro h'; exact absurd h' h
   ·split
    ·intro h; exact absurd h (by decide)
    ·split
     ·intro _; simp
     ·intro h
      have := sA G n (l ++ [((bJ (G t).1).1.put t)]) (bJ (G t).1).1.next h
      simp only [List.length_append, List.length_cons, List.length_nil] at this
      omega
def aI (K : KD) (t : Int) : List LK × Int := dX (gI K) 40 [] t
def jN (b : ByteArray) (i : Nat) : ByteArray := b.extract (i * 236) (min b.size ((i + 1) * 236))
theorem lS (b : ByteArray) (i : Nat) : (jN b i).size = min b.size ((i + 1) * 236) - i * 236 := by
 unfold jN
 rw [ByteArray.size_extract]
 omega
def dP (n : Nat) : Nat := if n = 0 then 1 else (n - 1) / 236 + 1
def oL (l : List LK) : ByteArray := ⟨(l.flatMap fun x => x.data.data.toList).toArray⟩
def cQ (gen tag refs : Int) (b : ByteArray) (ps : List Int) (i : Nat) : LK := ⟨gen, tag, i, if i = 0 then refs else 0, ps.getD (i + 1) 0, jN b i, 0⟩
structure aZ (F : Int -> ByteArray) (gen tag refs : Int) (b : ByteArray) (ps : List Int) : Prop where
 fit : 1 <= gen /\ gen <= 3 /\ 0 <= tag /\ tag <= 200
 used : 0 <= refs /\ refs <= 60000
 few : b.size <= 9440
 len : ps.length = dP b.size
 range : ∀ p ∈ ps, 2 <= p /\ p < 65536
 laid : ∀ i, i < ps.length -> F (ps.getD i 0) = bs (cQ gen tag refs b ps i).text
section
variable {F : Int -> ByteArray} {gen tag refs : Int} {b : ByteArray} {ps : List Int}
theorem xT {n : Nat} (h : n <= 9440) : 1 <= dP n /\ dP n <= 40 := by unfold dP; split <;> omega
theorem aZ.count (h : aZ F gen tag refs b ps) : 1 <= ps.length /\ ps.length <= 40 := by rw [h.len]; exact xT h.few
theorem aZ.mem (_ : aZ F gen tag refs b ps) {i : Nat} (hi : i < ps.length) : ps.getD i 0 ∈ ps := by
 rw [List.getD_eq_getElem?_getD, List.getElem?_eq_getElem hi]
 exact List.getElem_mem hi
theorem aZ.next0 (_ : aZ F gen tag refs b ps) {i : Nat} (hi : ps.length <= i + 1) : ps.getD (i + 1) 0 = 0 := by
 rw [List.getD_eq_getElem?_getD, List.getElem?_eq_none hi]
 rfl
theorem aZ.ok (h : aZ F gen tag refs b ps) {i : Nat} (hi : i < ps.length) : (cQ gen tag refs b ps i).Ok := by
 have hc := h.count
 refine ⟨h.fit, ⟨by show 0 <= (i : Int); omega, by show (i : Int) < 256; omega⟩, ?_, ?_, ?_⟩
 ·show 0 <= (if i = 0 then refs else 0) /\ (if i = 0 then refs else 0) <= 60000
  split
  ·exact h.used
  ·omega
 ·show 0 <= ps.getD (i + 1) 0 /\ ps.getD (i + 1) 0 < 65536
  rcases Nat.lt_or_ge (i + 1) ps.length with h' | h'
  ·have := h.range _ (h.mem h')
   omega
  ·rw [h.next0 h']
   omega
 ·show (jN b i).size <= 236
  rw [lS]
  omega
def dB (gen tag refs : Int) (b : ByteArray) (ps : List Int) (n : Nat) : List LK := (List.range n).map fun i => ((cQ gen tag refs b ps i).put (ps.getD i 0))
theorem oM (n : Nat) : dB gen tag refs b ps (n + 1) = dB gen tag refs b ps n ++ [((cQ gen tag refs b ps n).put (ps.getD n 0))] := by
 unfold dB
 rw [List.range_succ, List.map_append]
 rfl
theorem Io (n : Nat) : (dB gen tag refs b ps n).length = n := by simp [dB]
theorem aZ.full (h : aZ F gen tag refs b ps) {i : Nat} (hi : i + 1 < ps.length) : (jN b i).size = 236 := by
 have hl := h.len
 rw [lS]
 unfold dP at hl
 split at hl
 ·omega
 ·omega
theorem aZ.some_ (h : aZ F gen tag refs b ps) {i : Nat} (h0 : 0 < i) (hi : i < ps.length) : jN b i ≠ .empty := by
 intro e
 have e2 := lS b i
 have hl := h.len
 rw [e] at e2
 have : ByteArray.empty.size = 0 := rfl
 unfold dP at hl
 split at hl
 ·omega
 ·omega
theorem aZ.follows (h : aZ F gen tag refs b ps) {i : Nat} (hi : i < ps.length) : eF ((cQ gen tag refs b ps i).put (0)) (dB gen tag refs b ps i) = true := by
 unfold eF
 rw [Io, if_neg]
 ·cases i with
  | zero => rfl
  | succ i =>
    have e : dB gen tag refs b ps (i + 1) = ((cQ gen tag refs b ps 0).put (ps.getD 0 0)) :: ((List.range i).map (· + 1)).map (fun i => ((cQ gen tag refs b ps i).put (ps.getD i 0))) := by
     unfold dB
     rw [List.range_succ_eq_map, List.map_cons, List.map_map]
    rw [e]
    refine decide_eq_true ⟨rfl, rfl, ?_, h.some_ (by omega) hi⟩
    show (if i + 1 = 0 then refs else 0) = 0
    rw [if_neg (by omega)]
 ·rintro (h1 | ⟨h1, h2⟩)
  ·exact h1 rfl
  ·apply h2
   refine h.full ?_
   rcases Nat.lt_or_ge (i + 1) ps.length with h' | h'
   ·exact h'
   ·exact absurd (h.next0 h') h1
theorem aZ.read (h : aZ F gen tag refs b ps) {i : Nat} (hi : i < ps.length) : bJ (F (ps.getD i 0)) = (((cQ gen tag refs b ps i).put (0)), true) := by
 rw [h.laid i hi, (h.ok hi).reads]
theorem Lr {G : Int -> ByteArray × Int} (h : aZ F gen tag refs b ps) : ∀ i, i < ps.length -> (∀ j, j < i -> G (ps.getD j 0) = (F (ps.getD j 0), 0)) -> dX G 40 [] (ps.getD 0 0) = dX G (40 - i) (dB gen tag refs b ps i) (ps.getD i 0)
 | 0, _, _ => rfl
 | i + 1, hi, hG => by
   rw [Lr h i (by omega) (fun j hj => hG j (by omega))]
   have hc := h.count
   obtain ⟨n, hn⟩ : ∃ n, 40 - i = n + 1 := ⟨40 - i - 1, by omega⟩
   have e1 := hG i (by omega)
   have e2 := h.read (i := i) (by omega)
   have e3 := h.follows (i := i) (by omega)
   rw [hn]
   rw [dX, e1, if_neg (by simp), e2, if_neg (by simp [e3]), if_neg]
   ·rw [oM]
    rw [show 40 - (i + 1) = n by omega]
    rfl
   ·show ps.getD (i + 1) 0 ≠ 0
    have := h.range _ (h.mem hi)
    omega
theorem Sr {G : Int -> ByteArray × Int} (h : aZ F gen tag refs b ps) (hG : ∀ j, j < ps.length -> G (ps.getD j 0) = (F (ps.getD j 0), 0)) : dX G 40 [] (ps.getD 0 0) = (dB gen tag refs b ps ps.length, 0) := by
 have hc := h.count
 obtain ⟨i, hi⟩ : ∃ i, ps.length = i + 1 := ⟨ps.length - 1, by omega⟩
 rw [Lr h i (by omega) (fun j hj => hG j (by omega)), hi]
 obtain ⟨n, hn⟩ : ∃ n, 40 - i = n + 1 := ⟨40 - i - 1, by omega⟩
 have e1 := hG i (by omega)
 have e2 := h.read (i := i) (by omega)
 have e3 := h.follows (i := i) (by omega)
 rw [hn]
 rw [dX, e1, if_neg (by simp), e2, if_neg (by simp [e3]), if_pos (show ((cQ gen tag refs b ps i).put 0, true).fst.next = 0 from h.next0 (by omega)), oM]
 rfl
end
theorem Fi {gen tag refs : Int} {b : ByteArray} {ps : List Int} : ∀ n, n * 236 <= b.size + 235 -> oL (dB gen tag refs b ps n) = b.extract 0 (min b.size (n * 236))
 | 0, _ => by
   apply ByteArray.ext
   simp [oL, dB]
 | n + 1, hn => by
   have ih := Fi (gen := gen) (tag := tag) (refs := refs) (b := b) (ps := ps) n (by omega)
   have e1 : oL (dB gen tag refs b ps (n + 1)) = oL (dB gen tag refs b ps n) ++ jN b n := by
    rw [oM]
    apply ByteArray.ext
    simp [oL, cQ, LK.put]
   rw [e1, ih]
   unfold jN
   apply ByteArray.ext
   apply Array.toList_inj.1
   simp only [ByteArray.data_append, ByteArray.data_extract, Array.toList_append, Array.toList_extract, List.extract_eq_take_drop]
   simp only [List.drop_zero, Nat.sub_zero]
   have hm : min b.size (n * 236) = n * 236 := by omega
   rw [hm]
   have hsp : min b.size ((n + 1) * 236) = n * 236 + (min b.size ((n + 1) * 236) - n * 236) := by omega
   obtain ⟨z, hz⟩ : ∃ z, z = min b.size ((n + 1) * 236) - n * 236 := ⟨_, rfl⟩
   rw [<- hz] at hsp ⊢
   rw [hsp, List.take_add]
theorem Ip {gen tag refs : Int} {b : ByteArray} {ps : List Int} (hl : ps.length = dP b.size) : oL (dB gen tag refs b ps ps.length) = b := by
 by_cases h0 : b.size = 0
 ·have e : dP b.size = 1 := by unfold dP; rw [if_pos h0]
  have hb : b = .empty := ByteArray.ext (Array.eq_empty_of_size_eq_zero (show b.data.size = 0 from h0))
  rw [hl, e]
  subst hb
  apply ByteArray.ext
  simp [oL, dB, cQ, LK.put, jN]
 ·have : dP b.size = (b.size - 1) / 236 + 1 := by unfold dP; rw [if_neg h0]
  rw [hl, this, Fi _ (by omega), Nat.min_eq_left (by omega)]
  apply ByteArray.ext
  simp
set_option maxRecDepth 100000
set_option maxHeartbeats 8000000
theorem AH (a : Array Value) (h : a.size = 37) : ∃ x0 x1 x2 x3 x4 x5 x6 x7 x8 x9 x10 x11 x12 x13 x14 x15 x16 x17 x18 x19 x20 x21 x22 x23 x24 x25 x26 x27 x28 x29 x30 x31 x32 x33 x34 x35 x36 : Value, a = #[x0, x1, x2, x3, x4, x5, x6, x7, x8, x9, x10, x11, x12, x13, x14, x15, x16, x17, x18, x19, x20, x21, x22, x23, x24, x25, x26, x27, x28, x29, x30, x31, x32, x33, x34, x35, x36] := by
 obtain ⟨l⟩ := a
 have h : l.length = 37 := h
 obtain ⟨x0, t1, e1, h1⟩ := aB h
 obtain ⟨x1, t2, e2, h2⟩ := aB h1
 obtain ⟨x2, t3, e3, h3⟩ := aB h2
 obtain ⟨x3, t4, e4, h4⟩ := aB h3
 obtain ⟨x4, t5, e5, h5⟩ := aB h4
 obtain ⟨x5, t6, e6, h6⟩ := aB h5
 obtain ⟨x6, t7, e7, h7⟩ := aB h6
 obtain ⟨x7, t8, e8, h8⟩ := aB h7
 obtain ⟨x8, t9, e9, h9⟩ := aB h8
 obtain ⟨x9, t10, e10, h10⟩ := aB h9
 obtain ⟨x10, t11, e11, h11⟩ := aB h10
 obtain ⟨x11, t12, e12, h12⟩ := aB h11
 obtain ⟨x12, t13, e13, h13⟩ := aB h12
 obtain ⟨x13, t14, e14, h14⟩ := aB h13
 obtain ⟨x14, t15, e15, h15⟩ := aB h14
 obtain ⟨x15, t16, e16, h16⟩ := aB h15
 obtain ⟨x16, t17, e17, h17⟩ := aB h16
 obtain ⟨x17, t18, e18, h18⟩ := aB h17
 obtain ⟨x18, t19, e19, h19⟩ := aB h18
 obtain ⟨x19, t20, e20, h20⟩ := aB h19
 obtain ⟨x20, t21, e21, h21⟩ := aB h20
 obtain ⟨x21, t22, e22, h22⟩ := aB h21
 obtain ⟨x22, t23, e23, h23⟩ := aB h22
 obtain ⟨x23, t24, e24, h24⟩ := aB h23
 obtain ⟨x24, t25, e25, h25⟩ := aB h24
 obtain ⟨x25, t26, e26, h26⟩ := aB h25
 obtain ⟨x26, t27, e27, h27⟩ := aB h26
 obtain ⟨x27, t28, e28, h28⟩ := aB h27
 obtain ⟨x28, t29, e29, h29⟩ := aB h28
 obtain ⟨x29, t30, e30, h30⟩ := aB h29
 obtain ⟨x30, t31, e31, h31⟩ := aB h30
 obtain ⟨x31, t32, e32, h32⟩ := aB h31
 obtain ⟨x32, t33, e33, h33⟩ := aB h32
 obtain ⟨x33, t34, e34, h34⟩ := aB h33
 obtain ⟨x34, t35, e35, h35⟩ := aB h34
 obtain ⟨x35, t36, e36, h36⟩ := aB h35
 obtain ⟨x36, t37, e37, h37⟩ := aB h36
 obtain rfl := List.eq_nil_of_length_eq_zero h37
 subst e37 e36 e35 e34 e33 e32 e31 e30 e29 e28 e27 e26 e25 e24 e23 e22 e21 e20 e19 e18 e17 e16 e15 e14 e13 e12 e11 e10 e9 e8 e7 e6 e5 e4 e3 e2 e1
 exact ⟨x0, x1, x2, x3, x4, x5, x6, x7, x8, x9, x10, x11, x12, x13, x14, x15, x16, x17, x18, x19, x20, x21, x22, x23, x24, x25, x26, x27, x28, x29, x30, x31, x32, x33, x34, x35, x36, rfl⟩
theorem Im {w : World} {b : Nat} {k0 k1 k2 k3 : Int} (h : aG w b 3 #[.int .i64 k0, .int .i64 k1, .int .i64 k2, .int .i64 k3]) : dZ w w.heap.size (some ⟨b, 0, none⟩) [k0, k1, k2, k3] := by
 intro _
 refine ⟨b, 0, rfl, h.lt, fun j x hx => ?_⟩
 match j, hx with
 | 0, hx => obtain rfl : k0 = x := by simpa using hx
            exact h.cell 0
 | 1, hx => obtain rfl : k1 = x := by simpa using hx
            exact h.cell 1
 | 2, hx => obtain rfl : k2 = x := by simpa using hx
            exact h.cell 2
 | 3, hx => obtain rfl : k3 = x := by simpa using hx
            exact h.cell 3
def gH (x : LK) : Nat -> Wr
 | 0 | 1 => ⟨[], 0⟩
 | 2 => Wr.nums ⟨[], 0⟩ 1 [2, x.gen, x.tag, x.num]
 | 3 => (Wr.nums ⟨[], 0⟩ 1 [2, x.gen, x.tag, x.num]).nums 2 [x.refs, x.next]
 | _ => ((Wr.nums ⟨[], 0⟩ 1 [2, x.gen, x.tag, x.num]).nums 2 [x.refs, x.next]).texts [x.data]
theorem LK.Ok.st2 {x : LK} (h : x.Ok) : gH x 2 = ⟨aO 1 [2, x.gen, x.tag, x.num], 0⟩ := by
 have hf : cO 1 [2, x.gen, x.tag, x.num] = true := by
  have h1 := h.fit
  have h2 := h.num
  simp only [cO, List.all_cons, List.all_nil, Bool.and_true, Bool.and_eq_true]
  refine ⟨(fR _ _).2 (by omega), (fR _ _).2 (by omega), (fR _ _).2 (by omega), (fR _ _).2 (by omega)⟩
 show Wr.nums ⟨[], 0⟩ 1 [2, x.gen, x.tag, x.num] = _
 rw [lT _ _ _ hf, List.nil_append]
theorem LK.Ok.st3 {x : LK} (h : x.Ok) : gH x 3 = ⟨aO 1 [2, x.gen, x.tag, x.num] ++ aO 2 [x.refs, x.next], 0⟩ := by
 have hf : cO 2 [x.refs, x.next] = true := by
  have h1 := h.refs
  have h2 := h.next
  simp only [cO, List.all_cons, List.all_nil, Bool.and_true, Bool.and_eq_true]
  exact ⟨(fR _ _).2 (by omega), (fR _ _).2 (by omega)⟩
 show Wr.nums (gH x 2) 2 [x.refs, x.next] = _
 rw [h.st2, lT _ _ _ hf]
theorem LK.Ok.st4 {x : LK} (h : x.Ok) : gH x 4 = ⟨x.bytes, 0⟩ := by
 have hf : eB [x.data] = true := by
  have := h.data
  simp only [eB, List.all_cons, List.all_nil, Bool.and_true]
  exact decide_eq_true (by omega)
 show Wr.texts (gH x 3) [x.data] = _
 rw [h.st3, Tp _ _ hf]
 congr 1
 unfold LK.bytes
 simp only [aO, bD, List.flatMap_cons, List.flatMap_nil, List.append_nil, List.append_assoc]
 rfl
def AS (i : Nat) : Option Nat := [8, 9, 10, 11, 12, 13, 14, 15, 16, 17, 18, 19, 20, 21, 22, 23, 24, 25, 26, 27, 7, 28, 29, 3, 4][i]?
theorem Wx (i j s : Nat) (_ : i < 25) (_ : j < 25) (h1 : AS i = some s) (h2 : AS j = some s) : i = j := pN (by decide) i j s h1 h2
theorem Zg (i s : Nat) (_ : i < 25) (h : AS i = some s) : s < 37 := (by decide : ∀ x ∈ [8, 9, 10, 11, 12, 13, 14, 15, 16, 17, 18, 19, 20, 21, 22, 23, 24, 25, 26, 27, 7, 28, 29, 3, 4], x < 37) s (List.mem_of_getElem? h)
def Zz (n : Nat) : Nat := [0, 8, 14, 18, 19].getD n 0
theorem Wy (i j : Nat) (hi : i < 5) (hj : j < 5) (h : Zz i = Zz j) : i = j := (by decide : ∀ i, i < 5 -> ∀ j, j < 5 -> Zz i = Zz j -> i = j) i hi j hj h
theorem Zh : ∀ i, i < 5 -> Zz i < 25 := by decide
def AU (g0 : Nat) (gen tag num refs next : Int) (B Y : ByteArray) : Nat -> Value -> World -> Prop
 | 1, v, _ => v = .pointer (some ⟨g0, 0, none⟩)
 | 2, v, _ => v = .int .i64 gen
 | 3, v, _ => v = .pointer (some ⟨g0, 1, none⟩)
 | 4, v, _ => v = .int .i64 tag
 | 5, v, _ => v = .pointer (some ⟨g0, 2, none⟩)
 | 6, v, _ => v = .int .i64 num
 | 7, v, w => ∃ b, v = .slice (some ⟨b, 0, none⟩) 4 4 /\ aG w b 3 #[.int .i64 2, .int .i64 gen, .int .i64 tag, .int .i64 num]
 | 9, v, _ => v = .pointer (some ⟨g0, 3, none⟩)
 | 10, v, _ => v = .int .i64 refs
 | 11, v, _ => v = .pointer (some ⟨g0, 4, none⟩)
 | 12, v, _ => v = .int .i64 next
 | 13, v, w => ∃ b, v = .slice (some ⟨b, 0, none⟩) 2 2 /\ aG w b 3 #[.int .i64 refs, .int .i64 next]
 | 15, v, _ => v = .pointer (some ⟨g0, 5, none⟩)
 | 16, v, _ => v = .string B
 | 17, v, w => ∃ b, v = .slice (some ⟨b, 0, none⟩) 1 1 /\ aG w b 9 #[.string B]
 | 19, v, _ => v = .tuple #[.string Y, .int .i64 0]
 | 20, v, _ => v = .tuple #[.string Y, .int .i64 0]
 | 21, v, _ => v = .string Y
 | 22, v, _ => v = .int .i64 0
 | 23, v, _ => v = .string Y
 | 24, v, _ => v = .int .i64 0
 | _, _, _ => True
def Nn (W0 : World) (x : LK) : Nat -> Value -> World -> Prop
 | 0, _, w => Below W0.heap.size W0 w
 | 5, _, w => Below W0.heap.size W0 w
 | m, v, w => Below W0.heap.size W0 w /\ ∃ g, v = .pointer (some ⟨g, 0, none⟩) /\ W0.heap.size <= g /\ bF w g (gH x m)
theorem xS {W0 : World} {x : LK} {m : Nat} {v : Value} {w : World} (hc : Nn W0 x m v w) : Below W0.heap.size W0 w := by
 unfold Nn at hc
 split at hc
 ·exact hc
 ·exact hc
 ·exact hc.1
theorem Np {W0 : World} {x : LK} (m : Nat) (v : Value) (w w' : World) (hc : Nn W0 x m v w) (hg : w.grownBy w' none) : Nn W0 x m v w' := by
 have hb := xS hc
 have hb' := oT hb hg hb.size
 unfold Nn at hc ⊢
 split at hc
 ·exact hb'
 ·exact hb'
 ·obtain ⟨_, g, hv, hW, ho⟩ := hc
  exact ⟨hb', g, hv, hW, ho.kept' hg⟩
theorem Sn {g0 : Nat} {gen tag num refs next : Int} {B Y : ByteArray} (i : Nat) (v : Value) (w w' : World) (hf : AU g0 gen tag num refs next B Y i v w) (hg : cP 149 w w') : AU g0 gen tag num refs next B Y i v w' := by
 unfold AU at hf ⊢
 split at hf <;> first
  | exact hf
  | (obtain ⟨b, hv, hb⟩ := hf; exact ⟨b, hv, hb.grownT hg (by decide)⟩)
  | trivial
theorem Bi (x : LK) (w : World) (hx : x.Ok) :
  Calls Tryz.prog 48 #[x.val] w fun e w' => e = .returned (.string (bs x.text)) /\ Below w.heap.size w w' := by
 have S2 := Lib.hid hx.st2
 have S3 := Lib.hid hx.st3
 have S4 := Lib.hid hx.st4
 have HLE := Lib.hid hx.small
 have HSL := Lib.hid hx.sealed
 have HDS := Lib.hid hx.data
 obtain ⟨Y, hY⟩ : ∃ Y, Y = bs x.bytes := ⟨_, rfl⟩
 have HSEAL : Hid (∀ (W : World) (X : Option Addr) (cc : Nat), dL W W.heap.size X [Y] -> Calls Tryz.prog 86 #[.int .i64 256, .slice X 1 cc] W fun e w' => e = .returned (.tuple #[.string (bs x.text), .int .i64 0]) /\ Below W.heap.size W w') := Lib.hid (fun W X cc hx' => by
  have hfit : oD [Y] := by
   refine ⟨by simp, fun z hz => ?_⟩
   rw [List.mem_singleton.1 hz, hY, dO]
   have := HLE.out
   omega
  have := yI 256 X 1 cc [Y] W rfl hx' hfit
  rw [eW, hY, gA] at this
  have e : kT 256 x.bytes = .tuple #[.string (bs x.text), .int .i64 0] := by unfold kT; rw [HSL.out]; rfl
  rwa [e] at this)
 obtain ⟨T, hT⟩ : ∃ T, T = bs x.text := ⟨_, rfl⟩
 rw [<- hT] at HSEAL ⊢
 have HYE := Lib.hid hY
 obtain ⟨f1, n1, r1, q1, d1⟩ := hx
 have HR4 : Hid (fD [2, x.gen, x.tag, x.num]) := Lib.hid (fun z hz => by simp only [List.mem_cons, List.not_mem_nil, or_false] at hz; rcases hz with rfl | rfl | rfl | rfl <;> omega)
 have HR2 : Hid (fD [x.refs, x.next]) := Lib.hid (fun z hz => by simp only [List.mem_cons, List.not_mem_nil, or_false] at hz; rcases hz with rfl | rfl <;> omega)
 obtain ⟨X0, hX0⟩ : ∃ X0, X0 = x := ⟨_, rfl⟩
 rw [<- hX0] at S2 S3 S4
 have S4' := S4
 obtain ⟨gen, tag, num, refs, next, B, at_⟩ := x
 have HX0 := Lib.hid hX0
 have E2 : Hid (gH X0 2 = Wr.nums ⟨[], 0⟩ 1 [2, gen, tag, num]) := Lib.hid (by rw [hX0]; rfl)
 have E3 : Hid (gH X0 3 = (gH X0 2).nums 2 [refs, next]) := Lib.hid (by rw [hX0]; rfl)
 have E4 : Hid (gH X0 4 = (gH X0 3).texts [B]) := Lib.hid (by rw [hX0]; rfl)
 simp only at HR4 HR2 HLE HDS HYE S2 S3 S4
 clear hX0 hY hT HSL f1 n1 r1 q1 d1 S4'
 show Calls Tryz.prog 48 #[.agg #[.int .i64 gen, .int .i64 tag, .int .i64 num, .int .i64 refs, .int .i64 next, .string B, .int .i64 at_]] w _
 obtain ⟨W0, hW0⟩ : ∃ W0, W0 = w.alloc (.cells #[.int .i64 gen, .int .i64 tag, .int .i64 num, .int .i64 refs, .int .i64 next, .string B, .int .i64 at_] 83) := ⟨_, rfl⟩
 have HW0 := Lib.hid hW0
 have HB0 : Hid (Below w.heap.size w W0) := Lib.hid (by rw [hW0]; exact (Below.refl _ _).alloc (Nat.le_refl _) _)
 obtain ⟨g0, hg0⟩ : ∃ g0, g0 = w.heap.size := ⟨_, rfl⟩
 have HBLK : Hid (∀ W, Below W0.heap.size W0 W -> aG W g0 83 #[.int .i64 gen, .int .i64 tag, .int .i64 num, .int .i64 refs, .int .i64 next, .string B, .int .i64 at_]) := Lib.hid (fun W hW => by
  have : aG W0 w.heap.size 83 #[.int .i64 gen, .int .i64 tag, .int .i64 num, .int .i64 refs, .int .i64 next, .string B, .int .i64 at_] := by rw [hW0]; exact aG.new _ _ _
  rw [hg0]
  exact this.below hW this.lt)
 have HG0 := Lib.hid hg0
 clear hW0 hg0
 go_enter Tryz.func48, Tryz.ntmps48
 go_upto_region 1 with fail
 rw [<- HG0.out]
 refine dW 149 25 AS 5 Zz (AU g0 gen tag num refs next B Y) (Nn W0 X0) (by kernel_rfl) (by kernel_rfl) rfl Wx Zg Zh Wy ?hcw Sn Np ?h0 ?hloose ?hchain ?hK
 case hcw =>
  intro n hn
  rcases (show n = 0 \/ n = 1 \/ n = 2 \/ n = 3 by omega) with rfl | rfl | rfl | rfl <;> exact of_decide_eq_true (by kernel_rfl)
 case h0 => show Below W0.heap.size W0 _; rw [HW0.out]; exact (Below.refl _ _).drew
 case hloose =>
  intro i hi hn y w2 hf hw hch
  obtain ⟨nn, vv, _, hcc⟩ := hch
  have hbe := xS hcc
  clear hcc
  rcases (show i = 0 \/ i = 1 \/ i = 2 \/ i = 3 \/ i = 4 \/ i = 5 \/ i = 6 \/ i = 7 \/ i = 8 \/ i = 9 \/ i = 10 \/ i = 11 \/ i = 12 \/ i = 13 \/ i = 14 \/ i = 15 \/ i = 16 \/ i = 17 \/ i = 18 \/ i = 19 \/ i = 20 \/ i = 21 \/ i = 22 \/ i = 23 \/ i = 24 by omega) with rfl | rfl | rfl | rfl | rfl | rfl | rfl | rfl | rfl | rfl | rfl | rfl | rfl | rfl | rfl | rfl | rfl | rfl | rfl | rfl | rfl | rfl | rfl | rfl | rfl
  ·exact absurd rfl (hn 0 (by omega))
  ·have e1 : y.tmps[1]?.getD undef = .pointer (some ⟨g0, 0, none⟩) := by rw [hf.2.2 1 (by decide)]; rfl
   clear hf hw hn hbe
   refine aA (v := .pointer (some ⟨g0, 0, none⟩)) (w' := w2) rfl rfl ?_ ⟨_, rfl, (fun h => by cases h), aC _ _, ?_⟩
   ·go_simp
   ·exact (rfl : (.pointer (some ⟨g0, 0, none⟩) : Value) = _)
  ·have e1 : y.tmps[9]?.getD undef = .pointer (some ⟨g0, 0, none⟩) := hw 1 (of_decide_eq_true (by kernel_rfl))
   have c1 := (HBLK.out w2 hbe).cell 0
   simp at c1
   clear hf hw hn hbe
   refine aA (v := .int .i64 gen) (w' := w2) rfl rfl ?_ ⟨_, rfl, (fun h => by cases h), aC _ _, ?_⟩
   ·go_simp
   ·exact (rfl : (.int .i64 gen : Value) = _)
  ·have e1 : y.tmps[1]?.getD undef = .pointer (some ⟨g0, 0, none⟩) := by rw [hf.2.2 1 (by decide)]; rfl
   clear hf hw hn hbe
   refine aA (v := .pointer (some ⟨g0, 1, none⟩)) (w' := w2) rfl rfl ?_ ⟨_, rfl, (fun h => by cases h), aC _ _, ?_⟩
   ·go_simp
   ·exact (rfl : (.pointer (some ⟨g0, 1, none⟩) : Value) = _)
  ·have e1 : y.tmps[11]?.getD undef = .pointer (some ⟨g0, 1, none⟩) := hw 3 (of_decide_eq_true (by kernel_rfl))
   have c1 := (HBLK.out w2 hbe).cell 1
   simp at c1
   clear hf hw hn hbe
   refine aA (v := .int .i64 tag) (w' := w2) rfl rfl ?_ ⟨_, rfl, (fun h => by cases h), aC _ _, ?_⟩
   ·go_simp
   ·exact (rfl : (.int .i64 tag : Value) = _)
  ·have e1 : y.tmps[1]?.getD undef = .pointer (some ⟨g0, 0, none⟩) := by rw [hf.2.2 1 (by decide)]; rfl
   clear hf hw hn hbe
   refine aA (v := .pointer (some ⟨g0, 2, none⟩)) (w' := w2) rfl rfl ?_ ⟨_, rfl, (fun h => by cases h), aC _ _, ?_⟩
   ·go_simp
   ·exact (rfl : (.pointer (some ⟨g0, 2, none⟩) : Value) = _)
  ·have e1 : y.tmps[13]?.getD undef = .pointer (some ⟨g0, 2, none⟩) := hw 5 (of_decide_eq_true (by kernel_rfl))
   have c1 := (HBLK.out w2 hbe).cell 2
   simp at c1
   clear hf hw hn hbe
   refine aA (v := .int .i64 num) (w' := w2) rfl rfl ?_ ⟨_, rfl, (fun h => by cases h), aC _ _, ?_⟩
   ·go_simp
   ·exact (rfl : (.int .i64 num : Value) = _)
  ·have e1 : y.tmps[10]?.getD undef = .int .i64 gen := hw 2 (of_decide_eq_true (by kernel_rfl))
   have e2 : y.tmps[12]?.getD undef = .int .i64 tag := hw 4 (of_decide_eq_true (by kernel_rfl))
   have e3 : y.tmps[14]?.getD undef = .int .i64 num := hw 6 (of_decide_eq_true (by kernel_rfl))
   clear hf hw hn hbe
   refine aA (v := .slice (some ⟨w2.heap.size, 0, none⟩) 4 4) (w' := w2.alloc (.cells #[.int .i64 2, .int .i64 gen, .int .i64 tag, .int .i64 num] 3)) rfl rfl ?_ ⟨_, rfl, (fun h => by cases h), bH (aC _ _) _, ?_⟩
   ·go_simp
   ·exact ⟨_, rfl, aG.new _ _ _⟩
  ·exact absurd rfl (hn 1 (by omega))
  ·have e1 : y.tmps[1]?.getD undef = .pointer (some ⟨g0, 0, none⟩) := by rw [hf.2.2 1 (by decide)]; rfl
   clear hf hw hn hbe
   refine aA (v := .pointer (some ⟨g0, 3, none⟩)) (w' := w2) rfl rfl ?_ ⟨_, rfl, (fun h => by cases h), aC _ _, ?_⟩
   ·go_simp
   ·exact (rfl : (.pointer (some ⟨g0, 3, none⟩) : Value) = _)
  ·have e1 : y.tmps[17]?.getD undef = .pointer (some ⟨g0, 3, none⟩) := hw 9 (of_decide_eq_true (by kernel_rfl))
   have c1 := (HBLK.out w2 hbe).cell 3
   simp at c1
   clear hf hw hn hbe
   refine aA (v := .int .i64 refs) (w' := w2) rfl rfl ?_ ⟨_, rfl, (fun h => by cases h), aC _ _, ?_⟩
   ·go_simp
   ·exact (rfl : (.int .i64 refs : Value) = _)
  ·have e1 : y.tmps[1]?.getD undef = .pointer (some ⟨g0, 0, none⟩) := by rw [hf.2.2 1 (by decide)]; rfl
   clear hf hw hn hbe
   refine aA (v := .pointer (some ⟨g0, 4, none⟩)) (w' := w2) rfl rfl ?_ ⟨_, rfl, (fun h => by cases h), aC _ _, ?_⟩
   ·go_simp
   ·exact (rfl : (.pointer (some ⟨g0, 4, none⟩) : Value) = _)
  ·have e1 : y.tmps[19]?.getD undef = .pointer (some ⟨g0, 4, none⟩) := hw 11 (of_decide_eq_true (by kernel_rfl))
   have c1 := (HBLK.out w2 hbe).cell 4
   simp at c1
   clear hf hw hn hbe
   refine aA (v := .int .i64 next) (w' := w2) rfl rfl ?_ ⟨_, rfl, (fun h => by cases h), aC _ _, ?_⟩
   ·go_simp
   ·exact (rfl : (.int .i64 next : Value) = _)
  ·have e0 : y.tmps[18]?.getD undef = .int .i64 refs := hw 10 (of_decide_eq_true (by kernel_rfl))
   have e1 : y.tmps[20]?.getD undef = .int .i64 next := hw 12 (of_decide_eq_true (by kernel_rfl))
   clear hf hw hn hbe
   refine aA (v := .slice (some ⟨w2.heap.size, 0, none⟩) 2 2) (w' := w2.alloc (.cells #[.int .i64 refs, .int .i64 next] 3)) rfl rfl ?_ ⟨_, rfl, (fun h => by cases h), bH (aC _ _) _, ?_⟩
   ·go_simp
   ·exact ⟨_, rfl, aG.new _ _ _⟩
  ·exact absurd rfl (hn 2 (by omega))
  ·have e1 : y.tmps[1]?.getD undef = .pointer (some ⟨g0, 0, none⟩) := by rw [hf.2.2 1 (by decide)]; rfl
   clear hf hw hn hbe
   refine aA (v := .pointer (some ⟨g0, 5, none⟩)) (w' := w2) rfl rfl ?_ ⟨_, rfl, (fun h => by cases h), aC _ _, ?_⟩
   ·go_simp
   ·exact (rfl : (.pointer (some ⟨g0, 5, none⟩) : Value) = _)
  ·have e1 : y.tmps[23]?.getD undef = .pointer (some ⟨g0, 5, none⟩) := hw 15 (of_decide_eq_true (by kernel_rfl))
   have c1 := (HBLK.out w2 hbe).cell 5
   simp at c1
   clear hf hw hn hbe
   refine aA (v := .string B) (w' := w2) rfl rfl ?_ ⟨_, rfl, (fun h => by cases h), aC _ _, ?_⟩
   ·go_simp
   ·exact (rfl : (.string B : Value) = _)
  ·have e1 : y.tmps[24]?.getD undef = .string B := hw 16 (of_decide_eq_true (by kernel_rfl))
   clear hf hw hn hbe
   refine aA (v := .slice (some ⟨w2.heap.size, 0, none⟩) 1 1) (w' := w2.alloc (.cells #[.string B] 9)) rfl rfl ?_ ⟨_, rfl, (fun h => by cases h), bH (aC _ _) _, ?_⟩
   ·go_simp
   ·exact ⟨_, rfl, aG.new _ _ _⟩
  ·exact absurd rfl (hn 3 (by omega))
  ·exact absurd rfl (hn 4 (by omega))
  ·have e1 : y.tmps[27]?.getD undef = .tuple #[.string Y, .int .i64 0] := hw 19 (of_decide_eq_true (by kernel_rfl))
   clear hf hw hn hbe
   refine aA (v := .tuple #[.string Y, .int .i64 0]) (w' := w2) rfl rfl ?_ ⟨_, rfl, (fun h => by cases h), aC _ _, ?_⟩
   ·go_simp
   ·exact (rfl : (.tuple #[.string Y, .int .i64 0] : Value) = _)
  ·have e1 : y.tmps[7]?.getD undef = .tuple #[.string Y, .int .i64 0] := hw 20 (of_decide_eq_true (by kernel_rfl))
   clear hf hw hn hbe
   refine aA (v := .string Y) (w' := w2) rfl rfl ?_ ⟨_, rfl, (fun h => by cases h), aC _ _, ?_⟩
   ·go_simp
   ·exact (rfl : (.string Y : Value) = _)
  ·have e1 : y.tmps[7]?.getD undef = .tuple #[.string Y, .int .i64 0] := hw 20 (of_decide_eq_true (by kernel_rfl))
   clear hf hw hn hbe
   refine aA (v := .int .i64 0) (w' := w2) rfl rfl ?_ ⟨_, rfl, (fun h => by cases h), aC _ _, ?_⟩
   ·go_simp
   ·exact (rfl : (.int .i64 0 : Value) = _)
  ·have e1 : y.tmps[28]?.getD undef = .string Y := hw 21 (of_decide_eq_true (by kernel_rfl))
   clear hf hw hn hbe
   refine aA (v := .string Y) (w' := w2) rfl rfl ?_ ⟨_, rfl, (fun h => by cases h), aC _ _, ?_⟩
   ·go_simp
   ·exact (rfl : (.string Y : Value) = _)
  ·have e1 : y.tmps[29]?.getD undef = .int .i64 0 := hw 22 (of_decide_eq_true (by kernel_rfl))
   clear hf hw hn hbe
   refine aA (v := .int .i64 0) (w' := w2) rfl rfl ?_ ⟨_, rfl, (fun h => by cases h), aC _ _, ?_⟩
   ·go_simp
   ·exact (rfl : (.int .i64 0 : Value) = _)
 case hchain =>
  intro m hm y w2 hf hw hch
  rcases (show m = 0 \/ m = 1 \/ m = 2 \/ m = 3 \/ m = 4 by omega) with rfl | rfl | rfl | rfl | rfl
  ·have hbe : Below W0.heap.size W0 w2 := hch
   clear hf hw hch
   change wpOp _ _ _ 0 _ _ _
   refine aA (v := .pointer (some ⟨w2.heap.size, 0, none⟩)) (w' := w2.alloc (.cells #[.pointer none, .int .i64 0, .int .i64 0] 149)) rfl rfl ?_ ⟨_, rfl, (fun h => by cases h), cP.of_none (bH (aC _ _) _), ⟨hbe.alloc hbe.size _, _, rfl, hbe.size, bF.new w2⟩, trivial⟩
   go_simp
  ·obtain ⟨hbe, g, hg, hgW, ho⟩ := hch
   have e1 : y.tmps[8]?.getD undef = .pointer (some ⟨g, 0, none⟩) := hg
   obtain ⟨b, e2, hbk⟩ : ∃ b, y.tmps[15]?.getD undef = .slice (some ⟨b, 0, none⟩) 4 4 /\ aG w2 b 3 #[.int .i64 2, .int .i64 gen, .int .i64 tag, .int .i64 num] := hw 7 (of_decide_eq_true (by kernel_rfl))
   clear hf hw hg
   change wpOp _ _ _ 8 _ _ _
   refine aP (f := 82) (args := #[.pointer (some ⟨g, 0, none⟩), .slice (some ⟨b, 0, none⟩) 4 4]) rfl rfl (by go_simp) ((oJ g _ _ 4 4 [2, gen, tag, num] w2 rfl (Im hbk) (by simp) HR4.out ho (by simp [gH])).mono ?_)
   rintro e w3 ⟨rfl, h3, hg3⟩
   refine ⟨_, rfl, _, rfl, (fun h => by cases h), ho.grownT' hg3, ⟨aH hbe hg3 hgW, g, rfl, hgW, ?_⟩, trivial⟩
   show bF w3 g (gH X0 2)
   rw [E2.out]
   exact h3
  ·obtain ⟨hbe, g, hg, hgW, ho⟩ := hch
   have e1 : y.tmps[16]?.getD undef = .pointer (some ⟨g, 0, none⟩) := hg
   obtain ⟨b, e2, hbk⟩ : ∃ b, y.tmps[21]?.getD undef = .slice (some ⟨b, 0, none⟩) 2 2 /\ aG w2 b 3 #[.int .i64 refs, .int .i64 next] := hw 13 (of_decide_eq_true (by kernel_rfl))
   clear hf hw hg
   change wpOp _ _ _ 14 _ _ _
   refine aP (f := 83) (args := #[.pointer (some ⟨g, 0, none⟩), .slice (some ⟨b, 0, none⟩) 2 2]) rfl rfl (by go_simp) ((mP g _ _ 2 2 [refs, next] w2 rfl (tO hbk) (by simp) HR2.out ho (by rw [S2.out]; show (aO 1 _).length <= _; rw [dG]; simp)).mono ?_)
   rintro e w3 ⟨rfl, h3, hg3⟩
   refine ⟨_, rfl, _, rfl, (fun h => by cases h), ho.grownT' hg3, ⟨aH hbe hg3 hgW, g, rfl, hgW, ?_⟩, trivial⟩
   show bF w3 g (gH X0 3)
   rw [E3.out]
   exact h3
  ·obtain ⟨hbe, g, hg, hgW, ho⟩ := hch
   have e1 : y.tmps[22]?.getD undef = .pointer (some ⟨g, 0, none⟩) := hg
   obtain ⟨b, e2, hbk⟩ : ∃ b, y.tmps[25]?.getD undef = .slice (some ⟨b, 0, none⟩) 1 1 /\ aG w2 b 9 #[.string B] := hw 17 (of_decide_eq_true (by kernel_rfl))
   clear hf hw hg
   change wpOp _ _ _ 18 _ _ _
   refine aP (f := 84) (args := #[.pointer (some ⟨g, 0, none⟩), .slice (some ⟨b, 0, none⟩) 1 1]) rfl rfl (by go_simp) ((Sh g _ _ 1 1 [B] w2 rfl (Gz hbk) (by simp) (by have := HDS.out; simp only [bD, List.flatMap_cons, List.flatMap_nil, List.append_nil]; rw [qG]; omega) ho (by rw [S3.out]; show (aO 1 _ ++ aO 2 _).length <= _; rw [List.length_append, dG, dG]; simp)).mono ?_)
   rintro e w3 ⟨rfl, h3, hg3⟩
   refine ⟨_, rfl, _, rfl, (fun h => by cases h), ho.grownT' hg3, ⟨aH hbe hg3 hgW, g, rfl, hgW, ?_⟩, trivial⟩
   show bF w3 g (gH X0 4)
   rw [E4.out]
   exact h3
  ·obtain ⟨hbe, g, hg, hgW, ho⟩ := hch
   have e1 : y.tmps[26]?.getD undef = .pointer (some ⟨g, 0, none⟩) := hg
   have HFIN := nE g _ w2 ho (by rw [S4.out]; exact Wr.ok_zero _) (by rw [S4.out, HX0.out]; have := HLE.out; show (LK.bytes _).length <= _; omega)
   rw [S4.out] at HFIN
   clear hf hw hg
   change wpOp _ _ _ 19 _ _ _
   refine aP (f := 85) (args := #[.pointer (some ⟨g, 0, none⟩)]) rfl rfl (by go_simp) (HFIN.mono ?_)
   rintro e w3 ⟨rfl, _, hb3⟩
   refine ⟨_, rfl, _, rfl, (fun h => by cases h), cP.of_none (cT hb3 (Nat.le_refl _)), hbe.trans (hb3.mono hbe.size), ?_⟩
   show _ = _
   rw [HYE.out, HX0.out]
   rfl
 case hK =>
  intro y w2 hf hv hch
  have hbe : Below W0.heap.size W0 w2 := hch
  have e3 : y.tmps[3]?.getD undef = .string Y := hv 23 (by omega)
  have hd : y.defers = [] := hf.1
  have hsz : y.tmps.size = 37 := hf.2.1
  obtain ⟨tt, dd⟩ := y
  obtain rfl : dd = [] := hd
  have hsz : tt.size = 37 := hsz
  have e3' : tt[3]?.getD undef = .string Y := e3
  have HBE : Hid (Below w.heap.size w w2) := Lib.hid (HB0.out.trans (hbe.mono HB0.out.size))
  clear hf hv e3 hbe hch
  obtain ⟨x0, x1, x2, x3, x4, x5, x6, x7, x8, x9, x10, x11, x12, x13, x14, x15, x16, x17, x18, x19, x20, x21, x22, x23, x24, x25, x26, x27, x28, x29, x30, x31, x32, x33, x34, x35, x36, rfl⟩ := AH tt hsz
  obtain rfl : x3 = .string Y := by simpa using e3'
  clear e3' hsz
  go_wp2_with fail
  refine (HSEAL.out _ _ _ (jU _ _ _ _ rfl rfl)).mono ?_
  rintro e w4 ⟨rfl, hb4⟩
  have HB4 := Lib.hid hb4
  clear hb4
  go_wp2_with fail
  go_ret
  exact ⟨rfl, (HBE.out.alloc HBE.out.size _).trans (HB4.out.mono (by have := HBE.out.size; simp; omega))⟩
set_option maxRecDepth 100000
set_option maxHeartbeats 4000000
theorem zH (gen tag : Int) (w : World) : Calls Tryz.prog 44 #[.int .i64 gen, .int .i64 tag] w fun e w' => e = .returned (.bool (lR gen tag)) /\ w' = w := by
 obtain ⟨r, hr⟩ : ∃ r, r = lR gen tag := ⟨_, rfl⟩
 rw [<- hr]
 have HR := Lib.hid hr
 clear hr
 by_cases a0 : 1 <= gen
 rotate_left
 ·obtain rfl : r = false := by rw [HR.out]; exact decide_eq_false (by omega)
  have b0 : gen < 1 := by omega
  go_enter Tryz.func44, Tryz.ntmps44
  go_wp2_with fail
  go_ret
  exact ⟨rfl, rfl⟩
 have b0 : ¬ gen < 1 := by omega
 by_cases a1 : gen <= 3
 rotate_left
 ·obtain rfl : r = false := by rw [HR.out]; exact decide_eq_false (by omega)
  have b1 : 3 < gen := by omega
  go_enter Tryz.func44, Tryz.ntmps44
  go_wp2_with fail
  go_ret
  exact ⟨rfl, rfl⟩
 have b1 : ¬ 3 < gen := by omega
 by_cases a2 : 0 <= tag
 rotate_left
 ·obtain rfl : r = false := by rw [HR.out]; exact decide_eq_false (by omega)
  have b2 : tag < 0 := by omega
  go_enter Tryz.func44, Tryz.ntmps44
  go_wp2_with fail
  go_ret
  exact ⟨rfl, rfl⟩
 have b2 : ¬ tag < 0 := by omega
 by_cases a3 : tag <= 200
 rotate_left
 ·obtain rfl : r = false := by rw [HR.out]; exact decide_eq_false (by omega)
  have b3 : 200 < tag := by omega
  go_enter Tryz.func44, Tryz.ntmps44
  go_wp2_with fail
  go_ret
  exact ⟨rfl, rfl⟩
 have b3 : ¬ 200 < tag := by omega
 obtain rfl : r = true := by rw [HR.out]; exact decide_eq_true ⟨a0, a1, a2, a3⟩
 go_enter Tryz.func44, Tryz.ntmps44
 go_wp2_with fail
 go_ret
 exact ⟨rfl, rfl⟩
theorem Qg {n : Nat} (h0 : 0 < n) (_h : n <= 9223372036854775807) : (((n : Int) - 1) / 236 + 1) = (dP n : Int) := by
 unfold dP
 rw [if_neg (by omega)]
 omega
def zI (n : Int) : Int := if n < 0 then 0 else (dP n.toNat : Int)
theorem Kt (n : Int) (w : World) (hn : n <= 9223372036854775807) : Calls Tryz.prog 46 #[.int .i64 n] w fun e w' => e = .returned (.int .i64 (zI n)) /\ w' = w := by
 by_cases h0 : n < 0
 ·have e : zI n = 0 := if_pos h0
  rw [e]
  clear e
  go_enter Tryz.func46, Tryz.ntmps46
  go_wp2_with fail
  go_ret
  exact ⟨rfl, rfl⟩
 ·by_cases h1 : n = 0
  ·subst h1
   have e : zI 0 = 1 := rfl
   rw [e]
   clear e
   go_enter Tryz.func46, Tryz.ntmps46
   go_wp2_with fail
   go_ret
   exact ⟨rfl, rfl⟩
  ·have h2 : (n == 0) = false := by simpa using h1
   have e : zI n = (n - 1) / 236 + 1 := by
    unfold zI
    rw [if_neg h0, <- Qg (n := n.toNat) (by omega) (by omega), Int.toNat_of_nonneg (by omega)]
   rw [e]
   clear e
   have q1 : IntKind.i64.wrap (n - 1) = n - 1 := by rw [IntKind.wrap_i64]; omega
   have q2 : (n - 1).tdiv 236 = (n - 1) / 236 := by rw [Int.tdiv_eq_ediv_of_nonneg (by omega)]
   have q3 : IntKind.i64.wrap ((n - 1) / 236) = (n - 1) / 236 := by rw [IntKind.wrap_i64]; omega
   have q4 : IntKind.i64.wrap ((n - 1) / 236 + 1) = (n - 1) / 236 + 1 := by rw [IntKind.wrap_i64]; omega
   clear h1
   go_enter Tryz.func46, Tryz.ntmps46
   go_wp2_with fail
   go_ret
   first
    | exact ⟨rfl, rfl⟩
    | exact ⟨by rw [q2, q3, q4], rfl⟩
def jT (l : List LK) : List Value := l.flatMap LK.vals
theorem LK.vals_len (x : LK) : x.vals.length = 7 := rfl
theorem Ku (l : List LK) (x : LK) : jT (l ++ [x]) = jT l ++ x.vals := by simp [jT]
theorem Qh {l : List LK} {j : Nat} {x : LK} (h : l[j]? = some x) {i : Nat} (hi : i < 7) : (jT l)[j * 7 + i]? = x.vals[i]? := by
 induction l generalizing j with
 | nil => cases h
 | cons y r ih =>
   have e : jT (y :: r) = y.vals ++ jT r := rfl
   rw [e]
   cases j with
   | zero =>
     rw [List.getElem?_cons_zero] at h
     injection h with h
     subst h
     rw [List.getElem?_append_left (by rw [LK.vals_len]; omega), Nat.zero_mul, Nat.zero_add]
   | succ j =>
     rw [List.getElem?_cons_succ] at h
     rw [List.getElem?_append_right (by rw [LK.vals_len]; omega), LK.vals_len, <- ih h]
     congr 1
     omega
theorem LK.vals_one (x : LK) : ∀ u ∈ x.vals, u.oneCell' = true := by
 intro u hu
 simp only [LK.vals, List.mem_cons, List.not_mem_nil, or_false] at hu
 rcases hu with rfl | rfl | rfl | rfl | rfl | rfl | rfl <;> rfl
structure gT (w : World) (g o : Nat) (x : LK) : Prop where
 c0 : w.cell? ⟨g, o, none⟩ = some (.int .i64 x.gen)
 c1 : w.cell? ⟨g, o + 1, none⟩ = some (.int .i64 x.tag)
 c2 : w.cell? ⟨g, o + 2, none⟩ = some (.int .i64 x.num)
 c3 : w.cell? ⟨g, o + 3, none⟩ = some (.int .i64 x.refs)
 c4 : w.cell? ⟨g, o + 4, none⟩ = some (.int .i64 x.next)
 c5 : w.cell? ⟨g, o + 5, none⟩ = some (.string x.data)
 c6 : w.cell? ⟨g, o + 6, none⟩ = some (.int .i64 x.at_)
theorem mA {w : World} {base n c : Nat} {p : Option Addr} {l : List LK} (h : w.ownsRow base 83 7 (.slice p n c) n (jT l)) (hn : 0 < n) : ∃ g, p = some ⟨g, 0, none⟩ /\ base <= g /\ g < w.heap.size /\ ∀ (j : Nat) (x : LK), l[j]? = some x -> gT w g (j * 7) x := by
 obtain ⟨g, cap, e1, hb, hlt⟩ := h.form hn
 injection e1 with e1 _ e3
 subst e1 e3
 have f : ∀ (j : Nat) (x : LK), l[j]? = some x -> ∀ i u, i < 7 -> x.vals[i]? = some u -> w.cell? ⟨g, j * 7 + i, none⟩ = some u := fun j x hx i u hi hu => dY h ((Qh hx hi).trans hu)
 exact ⟨g, rfl, hb, hlt, fun j x hx => ⟨f j x hx 0 _ (by omega) rfl, f j x hx 1 _ (by omega) rfl, f j x hx 2 _ (by omega) rfl, f j x hx 3 _ (by omega) rfl, f j x hx 4 _ (by omega) rfl, f j x hx 5 _ (by omega) rfl, f j x hx 6 _ (by omega) rfl⟩⟩
theorem Qi : (Tryz.prog.info? 83).map (fun i => (i.zero, i.size, i.bytes)) = some (some (.agg #[.int .i64 0, .int .i64 0, .int .i64 0, .int .i64 0, .int .i64 0, .string .empty, .int .i64 0]), 7, 64) := by kernel_rfl
theorem cI {B : Nat} {w w' : World} (h : Below B w w') (d : Nat) : Below B w (w'.drewN d) := ⟨h.os, h.tape, h.output, h.size, h.block⟩
def Mc (w : World) (A : Option Addr) (l : List LK) : Prop := ∀ x, l[0]? = some x -> ∃ g, A = some ⟨g, 0, none⟩ /\ g < w.heap.size /\ w.cell? ⟨g, 0, none⟩ = some (.int .i64 x.gen) /\ w.cell? ⟨g, 1, none⟩ = some (.int .i64 x.tag)
theorem Ac (x : LK) (A : Option Addr) (n c : Nat) (l : List LK) (w : World) (hl : l.length = n) (hA : Mc w A l) (hn : n <= 1000) (hs : x.data.size <= 100000) :
  Calls Tryz.prog 69 #[x.val, .slice A n c] w fun e w' => e = .returned (.bool (eF x l)) /\ Below w.heap.size w w' := by
 obtain ⟨r, hr⟩ : ∃ r, r = eF x l := ⟨_, rfl⟩
 rw [<- hr]
 have HR := Lib.hid hr
 have HL := Lib.hid hl
 have HA := Lib.hid hA
 obtain ⟨gen, tag, num, refs, next, B, at_⟩ := x
 show Calls Tryz.prog 69 #[.agg #[.int .i64 gen, .int .i64 tag, .int .i64 num, .int .i64 refs, .int .i64 next, .string B, .int .i64 at_], .slice A n c] w _
 obtain ⟨sz, hsz⟩ : ∃ sz, sz = B.size := ⟨_, rfl⟩
 have HSZ := Lib.hid hsz
 have hsB : (B.size : Int) = (sz : Int) := by rw [hsz]
 have hszI : (sz : Int) <= 100000 := by rw [hsz]; simp only at hs; omega
 have hnI : (n : Int) <= 1000 := by omega
 clear hr hl hA hs hsz hn
 have HB : Hid (Below w.heap.size w (w.alloc (.cells #[.int .i64 gen, .int .i64 tag, .int .i64 num, .int .i64 refs, .int .i64 next, .string B, .int .i64 at_] 83))) := Lib.hid ((Below.refl _ _).alloc (Nat.le_refl _) _)
 by_cases a0 : num = (n : Int)
 rotate_left
 ·obtain rfl : r = false := by rw [HR.out]; unfold eF; rw [if_pos (.inl (by rw [HL.out]; exact a0))]
  have z0 : (num == (n : Int)) = false := by simpa using a0
  have z0' : (num != (n : Int)) = true := by simpa using a0
  clear a0
  go_enter Tryz.func69, Tryz.ntmps69
  go_wp2_with fail
  go_ret
  exact ⟨rfl, HB.out⟩
 subst a0
 by_cases a1 : next ≠ 0 /\ sz ≠ 236
 ·obtain rfl : r = false := by rw [HR.out]; unfold eF; rw [if_pos (.inr ⟨a1.1, by show B.size ≠ 236; rw [<- HSZ.out]; exact a1.2⟩)]
  have z1 : (next == 0) = false := by simpa using a1.1
  have z1' : (next != 0) = true := by simpa using a1.1
  have z2' : ((sz : Int) != 236) = true := by have := a1.2; simp; omega
  have z2 : ((sz : Int) == 236) = false := by have := a1.2; simp; omega
  have z3 : ¬ (sz : Int) = 236 := by have := a1.2; omega
  clear a1
  go_enter Tryz.func69, Tryz.ntmps69
  go_wp2_with fail
  go_ret
  exact ⟨rfl, HB.out⟩
 have HF : Hid (eF ⟨gen, tag, n, refs, next, B, at_⟩ l = Sq ⟨gen, tag, n, refs, next, B, at_⟩ l) := Lib.hid (by
  unfold eF
  rw [if_neg]
  ·rintro (h | h)
   ·exact h (by rw [HL.out])
   ·exact a1 ⟨h.1, by rw [HSZ.out]; exact h.2⟩)
 have a1' : next = 0 \/ (next ≠ 0 /\ sz = 236) := by omega
 have HN1 := Lib.hid a1'
 clear a1
 have hfull : (((sz : Int) == 236) = true /\ (next == 0) = false /\ (next != 0) = true) \/ next = 0 := by
  rcases a1' with h | ⟨h1, h2⟩
  ·exact .inr h
  ·exact .inl ⟨by rw [h2]; rfl, by simpa using h1, by simpa using h1⟩
 clear a1' HN1
 rcases hfull with ⟨z2, z1, z1'⟩ | rfl
 ·have z3 : (sz : Int) = 236 := by simpa using z2
  obtain rfl : sz = 236 := by omega
  cases l with
  | nil =>
    obtain rfl : r = true := by rw [HR.out, HF.out]; rfl
    obtain rfl : n = 0 := HL.out.symm
    go_enter Tryz.func69, Tryz.ntmps69
    go_wp2_with fail
    go_ret
    exact ⟨rfl, (Below.refl _ _).alloc (Nat.le_refl _) _⟩
  | cons a l =>
    obtain ⟨g, rfl, hglt, k0, k1⟩ := HA.out a rfl
    have hnp : 0 < (n : Int) := by have := HL.out; simp at this; omega
    have hnz : ((n : Int) == 0) = false := by simp; omega
    have hnz' : ¬ n = 0 := by omega
    have HG := Lib.hid hglt
    obtain ⟨ag, hag⟩ : ∃ ag, ag = a.gen := ⟨_, rfl⟩
    obtain ⟨at2, hat2⟩ : ∃ at2, at2 = a.tag := ⟨_, rfl⟩
    rw [<- hag] at k0
    rw [<- hat2] at k1
    have HAG := Lib.hid (And.intro hag hat2)
    clear hag hat2
    have q0 := (World.cell?_alloc_lt w (.cells #[.int .i64 gen, .int .i64 tag, .int .i64 n, .int .i64 refs, .int .i64 next, .string B, .int .i64 at_] 83) ⟨g, 0, none⟩ hglt).trans k0
    have q1 := (World.cell?_alloc_lt w (.cells #[.int .i64 gen, .int .i64 tag, .int .i64 n, .int .i64 refs, .int .i64 next, .string B, .int .i64 at_] 83) ⟨g, 1, none⟩ hglt).trans k1
    clear k0 k1 hglt
    by_cases s0 : gen = ag
    rotate_left
    ·obtain rfl : r = false := by rw [HR.out, HF.out]; show decide (gen = a.gen /\ tag = a.tag /\ refs = 0 /\ B ≠ .empty) = _; rw [<- HAG.out.1, <- HAG.out.2]; exact decide_eq_false (fun h => s0 h.1)
     have y0 : (gen == ag) = false := by simpa using s0
     clear s0
     go_enter Tryz.func69, Tryz.ntmps69
     go_wp2_with fail
     go_quiet (fail)
     go_wp2_with fail
     go_ret
     exact ⟨rfl, cI HB.out _⟩
    have y0 : (gen == ag) = true := by simpa using s0
    have HS0 := Lib.hid s0
    clear s0
    by_cases s1 : tag = at2
    rotate_left
    ·obtain rfl : r = false := by rw [HR.out, HF.out]; show decide (gen = a.gen /\ tag = a.tag /\ refs = 0 /\ B ≠ .empty) = _; rw [<- HAG.out.1, <- HAG.out.2]; exact decide_eq_false (fun h => s1 h.2.1)
     have y1 : (tag == at2) = false := by simpa using s1
     clear s1
     go_enter Tryz.func69, Tryz.ntmps69
     go_wp2_with fail
     go_quiet (fail)
     go_wp2_with fail
     go_ret
     exact ⟨rfl, cI HB.out _⟩
    have y1 : (tag == at2) = true := by simpa using s1
    have HS1 := Lib.hid s1
    clear s1
    by_cases s2 : refs = 0
    rotate_left
    ·obtain rfl : r = false := by rw [HR.out, HF.out]; show decide (gen = a.gen /\ tag = a.tag /\ refs = 0 /\ B ≠ .empty) = _; rw [<- HAG.out.1, <- HAG.out.2]; exact decide_eq_false (fun h => s2 h.2.2.1)
     have y2 : (refs == 0) = false := by simpa using s2
     clear s2
     go_enter Tryz.func69, Tryz.ntmps69
     go_wp2_with fail
     go_quiet (fail)
     go_wp2_with fail
     go_ret
     exact ⟨rfl, cI HB.out _⟩
    have y2 : (refs == 0) = true := by simpa using s2
    have HS2 := Lib.hid s2
    clear s2
    by_cases s3 : B ≠ .empty
    rotate_left
    ·obtain rfl : r = false := by rw [HR.out, HF.out]; show decide (gen = a.gen /\ tag = a.tag /\ refs = 0 /\ B ≠ .empty) = _; rw [<- HAG.out.1, <- HAG.out.2]; exact decide_eq_false (fun h => s3 h.2.2.2)
     have y3 : B.toList.isEmpty = true := by obtain rfl : B = .empty := Classical.byContradiction s3; rw [Lib.toList_data]; rfl
     clear s3
     go_enter Tryz.func69, Tryz.ntmps69
     go_wp2_with fail
     go_quiet (fail)
     go_wp2_with fail
     go_ret
     exact ⟨rfl, cI HB.out _⟩
    have y3 : B.toList.isEmpty = false := by
     rw [Lib.toList_data]
     cases hb : B.data.toList with
     | nil => exact absurd (ByteArray.ext (Array.toList_inj.1 hb)) s3
     | cons => rfl
    have HS3 := Lib.hid s3
    clear s3
    obtain rfl : r = true := by rw [HR.out, HF.out]; show decide (gen = a.gen /\ tag = a.tag /\ refs = 0 /\ B ≠ .empty) = _; rw [<- HAG.out.1, <- HAG.out.2]; exact decide_eq_true ⟨HS0.out, HS1.out, HS2.out, HS3.out⟩
    go_enter Tryz.func69, Tryz.ntmps69
    go_wp2_with fail
    go_quiet (fail)
    go_wp2_with fail
    go_ret
    exact ⟨rfl, cI HB.out _⟩
 ·cases l with
  | nil =>
    obtain rfl : r = true := by rw [HR.out, HF.out]; rfl
    obtain rfl : n = 0 := HL.out.symm
    go_enter Tryz.func69, Tryz.ntmps69
    go_wp2_with fail
    go_ret
    exact ⟨rfl, (Below.refl _ _).alloc (Nat.le_refl _) _⟩
  | cons a l =>
    obtain ⟨g, rfl, hglt, k0, k1⟩ := HA.out a rfl
    have hnp : 0 < (n : Int) := by have := HL.out; simp at this; omega
    have hnz : ((n : Int) == 0) = false := by simp; omega
    have hnz' : ¬ n = 0 := by omega
    have HG := Lib.hid hglt
    obtain ⟨ag, hag⟩ : ∃ ag, ag = a.gen := ⟨_, rfl⟩
    obtain ⟨at2, hat2⟩ : ∃ at2, at2 = a.tag := ⟨_, rfl⟩
    rw [<- hag] at k0
    rw [<- hat2] at k1
    have HAG := Lib.hid (And.intro hag hat2)
    clear hag hat2
    have q0 := (World.cell?_alloc_lt w (.cells #[.int .i64 gen, .int .i64 tag, .int .i64 n, .int .i64 refs, .int .i64 0, .string B, .int .i64 at_] 83) ⟨g, 0, none⟩ hglt).trans k0
    have q1 := (World.cell?_alloc_lt w (.cells #[.int .i64 gen, .int .i64 tag, .int .i64 n, .int .i64 refs, .int .i64 0, .string B, .int .i64 at_] 83) ⟨g, 1, none⟩ hglt).trans k1
    clear k0 k1 hglt
    by_cases s0 : gen = ag
    rotate_left
    ·obtain rfl : r = false := by rw [HR.out, HF.out]; show decide (gen = a.gen /\ tag = a.tag /\ refs = 0 /\ B ≠ .empty) = _; rw [<- HAG.out.1, <- HAG.out.2]; exact decide_eq_false (fun h => s0 h.1)
     have y0 : (gen == ag) = false := by simpa using s0
     clear s0
     go_enter Tryz.func69, Tryz.ntmps69
     go_wp2_with fail
     go_quiet (fail)
     go_wp2_with fail
     go_ret
     exact ⟨rfl, cI HB.out _⟩
    have y0 : (gen == ag) = true := by simpa using s0
    have HS0 := Lib.hid s0
    clear s0
    by_cases s1 : tag = at2
    rotate_left
    ·obtain rfl : r = false := by rw [HR.out, HF.out]; show decide (gen = a.gen /\ tag = a.tag /\ refs = 0 /\ B ≠ .empty) = _; rw [<- HAG.out.1, <- HAG.out.2]; exact decide_eq_false (fun h => s1 h.2.1)
     have y1 : (tag == at2) = false := by simpa using s1
     clear s1
     go_enter Tryz.func69, Tryz.ntmps69
     go_wp2_with fail
     go_quiet (fail)
     go_wp2_with fail
     go_ret
     exact ⟨rfl, cI HB.out _⟩
    have y1 : (tag == at2) = true := by simpa using s1
    have HS1 := Lib.hid s1
    clear s1
    by_cases s2 : refs = 0
    rotate_left
    ·obtain rfl : r = false := by rw [HR.out, HF.out]; show decide (gen = a.gen /\ tag = a.tag /\ refs = 0 /\ B ≠ .empty) = _; rw [<- HAG.out.1, <- HAG.out.2]; exact decide_eq_false (fun h => s2 h.2.2.1)
     have y2 : (refs == 0) = false := by simpa using s2
     clear s2
     go_enter Tryz.func69, Tryz.ntmps69
     go_wp2_with fail
     go_quiet (fail)
     go_wp2_with fail
     go_ret
     exact ⟨rfl, cI HB.out _⟩
    have y2 : (refs == 0) = true := by simpa using s2
    have HS2 := Lib.hid s2
    clear s2
    by_cases s3 : B ≠ .empty
    rotate_left
    ·obtain rfl : r = false := by rw [HR.out, HF.out]; show decide (gen = a.gen /\ tag = a.tag /\ refs = 0 /\ B ≠ .empty) = _; rw [<- HAG.out.1, <- HAG.out.2]; exact decide_eq_false (fun h => s3 h.2.2.2)
     have y3 : B.toList.isEmpty = true := by obtain rfl : B = .empty := Classical.byContradiction s3; rw [Lib.toList_data]; rfl
     clear s3
     go_enter Tryz.func69, Tryz.ntmps69
     go_wp2_with fail
     go_quiet (fail)
     go_wp2_with fail
     go_ret
     exact ⟨rfl, cI HB.out _⟩
    have y3 : B.toList.isEmpty = false := by
     rw [Lib.toList_data]
     cases hb : B.data.toList with
     | nil => exact absurd (ByteArray.ext (Array.toList_inj.1 hb)) s3
     | cons => rfl
    have HS3 := Lib.hid s3
    clear s3
    obtain rfl : r = true := by rw [HR.out, HF.out]; show decide (gen = a.gen /\ tag = a.tag /\ refs = 0 /\ B ≠ .empty) = _; rw [<- HAG.out.1, <- HAG.out.2]; exact decide_eq_true ⟨HS0.out, HS1.out, HS2.out, HS3.out⟩
    go_enter Tryz.func69, Tryz.ntmps69
    go_wp2_with fail
    go_quiet (fail)
    go_wp2_with fail
    go_ret
    exact ⟨rfl, cI HB.out _⟩
end Go.Proofs.YtingkbeifohihaaGreatDoor
