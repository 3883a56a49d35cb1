/-
  Package wal: its small calls, and groups of sectors that are written. No statement is proved here.
-/
import Derived.Test.YtiagofgcinlnhaaGreatDoorCrcOf
import Derived.Test.YtiagofgcinlnhaaGreatDoorRegionApp
import Derived.Test.YtiagofgcinlnhaaGreatDoorWalPure
import Derived.Test.YtiagofgcinlnhaaGreatDoorTexts
namespace Go.Proofs.YtiagofgcinlnhaaGreatDoor
open Go.RowKit
def sealV (n : Int) (l : List UInt8) : Value := .tuple #[.string ⟨(sealB n l).1.toArray⟩, .int .i64 (sealB n l).2]
theorem raws_new (xs : List ByteArray) : (Wr.mk [] 0).raws xs = ⟨cats xs, 0⟩ := by unfold Wr.raws Wr.lay; rw [if_pos rfl]; rfl
theorem pad_new {n : Int} {l : List UInt8} (h1 : n ≤ 65536) (h : (l.length : Int) ≤ n - 4) : (Wr.mk l 0).pad (n - 4) = ⟨body n l, 0⟩ := by
  unfold Wr.pad
  rw [if_neg (by omega), if_neg (by simp only []; omega)]
  unfold Wr.lay
  rw [if_pos rfl]
  rfl
theorem word_new (l : List UInt8) {k : Nat} (h : k < 4294967296) : (Wr.mk l 0).nums 4 [(k : Int)] = ⟨l ++ lowBytes 4 k, 0⟩ := by
  have hf : allFit 4 [(k : Int)] = true := by
    unfold allFit
    rw [List.all_cons, List.all_nil, Bool.and_true, fits_iff]
    omega
  unfold Wr.nums
  rw [if_pos hf]
  unfold Wr.lay
  rw [if_pos rfl]
  have e : allBytes 4 [(k : Int)] = lowBytes 4 k := by unfold allBytes; rw [List.flatMap_cons, List.flatMap_nil, List.append_nil]; rfl
  rw [e]
theorem roomB_yes {n : Int} {l : List UInt8} (h : (l.length : Int) ≤ n) : roomB n l = true := decide_eq_true h
theorem roomB_no {n : Int} {l : List UInt8} (h : ¬ (l.length : Int) ≤ n) : roomB n l = false := decide_eq_false h
set_option maxRecDepth 100000 in
set_option maxHeartbeats 1000000 in
theorem seal_arg (n : Int) (A : Option Addr) (m c : Nat) (l : List UInt8) (w : World) (h : n < 4 ∨ 65536 < n) :
    Calls Tryz.prog 99 #[.int .i64 n, .slice A m c] w fun e w' => e = .returned (sealV n l) ∧ w = w' := by
  have E : sealV n l = .tuple #[.string .empty, .int .i64 1] := by unfold sealV; rw [sealB_arg h]; rfl
  rw [E]
  clear E
  by_cases h1 : n < 4
  · go_enter Tryz.func99, Tryz.ntmps99
    go_wp2_with fail
    go_ret2
    exact ⟨rfl, rfl⟩
  · have h2 : 65536 < n := by omega
    clear h
    go_enter Tryz.func99, Tryz.ntmps99
    go_wp2_with fail
    go_ret2
    exact ⟨rfl, rfl⟩
set_option maxRecDepth 100000 in
set_option maxHeartbeats 1000000 in
theorem seal_in (n : Int) (A : Option Addr) (m c : Nat) (xs : List ByteArray) (w : World) (hm : xs.length = m) (hx : Txts w w.heap.size A xs) (hf : TextsFit xs) (h0 : 4 ≤ n) (h1 : n ≤ 65536) :
    Calls Tryz.prog 99 #[.int .i64 n, .slice A m c] w fun e w' => e = .returned (sealV n (cats xs)) ∧ Below w.heap.size w w' := by
  have hl : xs.length ≤ 140737488351232 := by have := hf.1; omega
  have hz : ∀ x ∈ xs, x.size ≤ 140737488351232 := fun x hx => by have := hf.2 x hx; omega
  have hs : (cats xs).length ≤ 140737488351232 := by
    have := cats_bound xs 100000 hf.2
    have := Nat.mul_le_mul_right 100000 hf.1
    omega
  have HFit := Lib.hid (fit_any (n - 4) A m c xs w hm hx hl hz (by omega) (by omega))
  have HX := Lib.hid hx
  have HM := Lib.hid hm
  have HS := Lib.hid hs
  have HL := Lib.hid hl
  clear hx hf hm hz hs hl
  by_cases hbig : (↑(cats xs).length : Int) ≤ n - 4
  · have E : sealV n (cats xs) = .tuple #[.string ⟨(body n (cats xs) ++ lowBytes 4 (crc (body n (cats xs)))).toArray⟩, .int .i64 0] := by unfold sealV; rw [sealB_ok h0 h1 hbig]
    rw [E]
    have HR := Lib.hid (roomB_yes hbig)
    have hbl := body_length hbig
    have HP := Lib.hid (pad_new h1 hbig)
    obtain ⟨B, hB⟩ : ∃ B, B = body n (cats xs) := ⟨_, rfl⟩
    rw [← hB] at hbl ⊢
    have hbl2 : B.length ≤ 65532 := by omega
    have HB := Lib.hid hB
    clear E hB hbl hbig
    go_enter Tryz.func99, Tryz.ntmps99
    go_wp2_with fail
    refine HFit.out.mono ?_
    rintro e w1 ⟨rfl, rfl⟩
    rw [HR.out]
    go_wp2_with fail
    with_reducible refine (out_raw w.heap.size ⟨[], 0⟩ A m c xs _ HM.out ?_ HL.out HS.out ?_ (by simp)).mono ?_
    · exact (HX.out.below ((Below.refl _ _).alloc (Nat.le_refl _) _)).more (by simp)
    · exact OutAt.new w
    rintro e w1 ⟨rfl, h2, hg2⟩
    have hb2 : Below w.heap.size w w1 := below_by_new ((Below.refl _ w).alloc (Nat.le_refl _) _) hg2 (Nat.le_refl _)
    rw [raws_new] at h2
    clear hg2
    go_wp2_with fail
    with_reducible refine (pad_any w.heap.size ⟨cats xs, 0⟩ (n - 4) _ h2 HS.out).mono ?_
    rintro e w2 ⟨rfl, h3, hg3⟩
    have hb3 : Below w.heap.size w w2 := below_by_new hb2 hg3 (Nat.le_refl _)
    rw [HP.out, ← HB.out] at h3
    clear hg3 hb2 h2
    go_wp2_with fail
    with_reducible refine (fin_any w.heap.size ⟨B, 0⟩ _ h3 (Wr.ok_zero _) (by simp only []; omega)).mono ?_
    rintro e w3 ⟨rfl, h4, hb4⟩
    have hb5 : Below w.heap.size w w3 := hb3.trans (hb4.mono hb3.size)
    clear hb4 hb3 h3
    go_wp2_with fail
    with_reducible refine (of_any (some ⟨w3.heap.size, 0, none⟩) 1 1 [⟨B.toArray⟩] _ rfl ?_ (by simp) ?_).mono ?_
    · exact txts_at w3 _ [⟨B.toArray⟩] _ rfl rfl
    · intro x hx
      rw [List.mem_singleton.1 hx, Lib.size_eq]
      show B.length ≤ _
      omega
    rintro e w4 ⟨rfl, rfl⟩
    have e1 : crc (cats [⟨B.toArray⟩]) = crc B := by rw [cats_one]
    have hcl := crc_lt B
    rw [e1]
    have HW := Lib.hid (word_new B hcl)
    obtain ⟨K, hK⟩ : ∃ K, K = crc B := ⟨_, rfl⟩
    rw [← hK] at hcl ⊢
    have HK := Lib.hid hK
    clear e1 hK
    go_wp2_with fail
    with_reducible refine (out_word w.heap.size ⟨B, 0⟩ (some ⟨w3.heap.size + 1, 0, none⟩) 1 1 [(K : Int)] _ rfl ?_ (by simp) ?_ ?_ (by simp only []; omega)).mono ?_
    · exact ints_at _ _ [(K : Int)] _ (by simp) rfl
    · exact inRange_one (by omega) (by omega)
    · exact h4.below (((Below.refl _ w3).alloc (Nat.le_refl _) _).alloc (by simp) _)
    rintro e w5 ⟨rfl, h6, hg6⟩
    have hb6 : Below w.heap.size w w5 := below_by_new ((hb5.alloc hb5.size _).alloc (by have := hb5.size; simp; omega) _) hg6 (Nat.le_refl _)
    rw [HK.out, HW.out] at h6
    clear hg6 h4 hb5
    go_wp2_with fail
    with_reducible refine (fin_any w.heap.size ⟨B ++ lowBytes 4 (crc B), 0⟩ _ h6 (Wr.ok_zero _) (by simp only [List.length_append, lowBytes_length]; omega)).mono ?_
    rintro e w6 ⟨rfl, h7, hb7⟩
    have hb8 : Below w.heap.size w w6 := hb6.trans (hb7.mono hb6.size)
    clear hb7 h7 h6 hb6
    go_wp2_with fail
    go_ret2
    exact ⟨rfl, hb8⟩
  · have E : sealV n (cats xs) = .tuple #[.string .empty, .int .i64 2] := by unfold sealV; rw [sealB_long h0 h1 (by omega)]; rfl
    rw [E]
    have HR := Lib.hid (roomB_no hbig)
    clear E hbig
    go_enter Tryz.func99, Tryz.ntmps99
    go_wp2_with fail
    refine HFit.out.mono ?_
    rintro e w1 ⟨rfl, rfl⟩
    rw [HR.out]
    go_wp2_with fail
    go_ret2
    exact ⟨rfl, Below.refl _ _⟩
theorem seal_any (n : Int) (A : Option Addr) (m c : Nat) (xs : List ByteArray) (w : World) (hm : xs.length = m) (hx : Txts w w.heap.size A xs) (hf : TextsFit xs) :
    Calls Tryz.prog 99 #[.int .i64 n, .slice A m c] w fun e w' => e = .returned (sealV n (cats xs)) ∧ Below w.heap.size w w' := by
  by_cases h : n < 4 ∨ 65536 < n
  · exact (seal_arg n A m c (cats xs) w h).mono fun e w' ⟨he, hw⟩ => ⟨he, hw ▸ Below.refl _ _⟩
  · exact seal_in n A m c xs w hm hx hf (by omega) (by omega)
structure GrownT (T : TypeId) (w w' : World) : Prop where
  block : ∀ (k : Nat) (t : TypeId) (cs : Array Value) (fr : Nat × Nat), w.heap[k]? = some (.cells cs t fr) → t ≠ T → w'.heap[k]? = some (.cells cs t fr)
theorem GrownT.of_none {T : TypeId} {w w' : World} (h : w.grownBy w' none) : GrownT T w w' :=
  ⟨fun k t cs fr hk _ => by
    have hlt : k < w.heap.size := by
      rcases Nat.lt_or_ge k w.heap.size with h1 | h1
      · exact h1
      · rw [Array.getElem?_eq_none h1] at hk; cases hk
    rw [h.block k hlt (by simp)]
    exact hk⟩
theorem GrownT.of_by {T : TypeId} {w w' : World} {g : Nat} {cs : Array Value} (h : w.grownBy w' (some g)) (hb : Blk w g T cs) : GrownT T w w' :=
  ⟨fun k t c fr hk ht => by
    have hlt : k < w.heap.size := by
      rcases Nat.lt_or_ge k w.heap.size with h1 | h1
      · exact h1
      · rw [Array.getElem?_eq_none h1] at hk; cases hk
    rw [h.block k hlt (fun e => ?_)]
    · exact hk
    · have e : k = g := by simpa using e
      subst e
      unfold Blk at hb
      rw [hk] at hb
      injection hb with hb
      injection hb with _ h2 _
      exact ht h2⟩
theorem Blk.grownT {T : TypeId} {w w' : World} {b : Nat} {t : TypeId} {cs : Array Value} (h : Blk w b t cs) (hg : GrownT T w w') (ht : t ≠ T) : Blk w' b t cs := hg.block b t cs (0, 0) h ht
def FrameD (a : Act) (n : Nat) (D : Nat → Option Nat) (x : Act) : Prop := x.defers = a.defers ∧ x.tmps.size = a.tmps.size ∧ ∀ s, (∀ i, i < n → D i ≠ some s) → x.tmps[s]? = a.tmps[s]?
def slotOf (x : Act) : Option Nat → Value
  | some s => x.tmps[s]?.getD undef
  | none => undef
theorem wp_region_chain_v {P : Program} {ops : Array Oper} {Q : Exit → Act → World → Prop} {id : Nat} {a : Act} {w : World} (T : TypeId) (k : Nat) (D : Nat → Option Nat) (N : Nat) (ci : Nat → Nat) (F : Nat → Value → World → Prop) (Ch : Nat → Value → World → Prop)
    (hm : P.follows .mixedOrders = true) (he : early .any ops = true) (hk : ops.size = k)
    (hinj : ∀ i j s, i < k → j < k → D i = some s → D j = some s → i = j) (hlt : ∀ i s, i < k → D i = some s → s < a.tmps.size)
    (hci : ∀ n, n < N → ci n < k) (hcinj : ∀ n m, n < N → m < N → ci n = ci m → n = m) (hcw : ∀ n, n + 1 < N → ci n ∈ waitsFor .any ops (ci (n + 1)))
    (hF : ∀ i v w w', F i v w → GrownT T w w' → F i v w') (hC : ∀ n v w w', Ch n v w → w.grownBy w' none → Ch n v w') (h0 : Ch 0 undef w.drew)
    (hloose : ∀ i, i < k → (∀ n, n < N → ci n ≠ i) → ∀ (x : Act) (w' : World), FrameD a k D x → (∀ j ∈ waitsFor .any ops i, F j (slotOf x (D j)) w') → (∃ n v, n ≤ N ∧ Ch n v w') → wpOp P ops Q i (fun x' w'' => ∃ v, x' = x.put (D i) v ∧ (D i = none → v = undef) ∧ w'.grownBy w'' none ∧ F i v w'') x w')
    (hchain : ∀ n, n < N → ∀ (x : Act) (w' : World), FrameD a k D x → (∀ j ∈ waitsFor .any ops (ci n), F j (slotOf x (D j)) w') → Ch n (if n = 0 then undef else slotOf x (D (ci (n - 1)))) w' → wpOp P ops Q (ci n) (fun x' w'' => ∃ v, x' = x.put (D (ci n)) v ∧ (D (ci n) = none → v = undef) ∧ GrownT T w' w'' ∧ Ch (n + 1) v w'' ∧ F (ci n) v w'') x w')
    (hK : ∀ (x : Act) (w' : World), FrameD a k D x → (∀ i, i < k → F i (slotOf x (D i)) w') → Ch N (if N = 0 then undef else slotOf x (D (ci (N - 1)))) w' → Q .normal x w') : (Code.region id ops true).wp P Q a w := by
  subst hk
  have key : ∀ (x : Act) (i j : Nat) (v : Value), i < ops.size → j < ops.size → i ≠ j → slotOf (x.put (D i) v) (D j) = slotOf x (D j) := by
    intro x i j v hi hj hij
    cases h1 : D i with
    | none => rfl
    | some s =>
      cases h2 : D j with
      | none => rfl
      | some t => exact put_there x s t v (fun e => hij (hinj i j s hi hj h1 (by rw [h2, e])))
  have here : ∀ (x : Act) (i : Nat) (v : Value), i < ops.size → FrameD a ops.size D x → (D i = none → v = undef) → slotOf (x.put (D i) v) (D i) = v := by
    intro x i v hi hf hn
    cases h1 : D i with
    | none => rw [hn h1]; rfl
    | some s => exact put_here x s v (by rw [hf.2.1]; exact hlt i s hi h1)
  have fput : ∀ (x : Act) (i : Nat) (v : Value), i < ops.size → FrameD a ops.size D x → FrameD a ops.size D (x.put (D i) v) := by
    intro x i v hi ⟨h1, h2, h3⟩
    cases h4 : D i with
    | none => exact ⟨h1, h2, h3⟩
    | some t =>
      refine ⟨h1, by simp [Act.put, h2], fun s hs => ?_⟩
      rw [← h3 s hs]
      simp only [Act.put]
      exact Array.getElem?_setIfInBounds_ne (fun e => hs i hi (by rw [h4, e]))
  refine wp_region_kept (fun L x w => FrameD a ops.size D x ∧ (∀ i, i < ops.size → L i = true → F i (slotOf x (D i)) w) ∧ ∃ n, n ≤ N ∧ (∀ m, m < N → (L (ci m) = true ↔ m < n)) ∧ Ch n (if n = 0 then undef else slotOf x (D (ci (n - 1)))) w) hm he ?_ ?_ ?_
  · exact ⟨⟨rfl, rfl, fun _ _ => rfl⟩, fun _ _ h => (by cases h), 0, Nat.zero_le _, fun m _ => by simp, h0⟩
  · intro L x w' i ⟨hf, hv, n, hn, hL, hch⟩ hi hLi hw
    have hww : ∀ j ∈ waitsFor .any ops i, F j (slotOf x (D j)) w' := fun j hj => by
      have hlt := List.all_eq_true.1 (List.all_eq_true.1 he i (List.mem_range.2 hi)) j hj
      have : j < i := by simpa using hlt
      exact hv j (by omega) (hw j hj)
    by_cases hic : ∃ m, m < N ∧ ci m = i
    · obtain ⟨m, hmN, rfl⟩ := hic
      have hnm : n = m := by
        have h1 : ¬ m < n := fun h => by rw [(hL m hmN).2 h] at hLi; cases hLi
        rcases Nat.lt_or_ge n m with h2 | h2
        · have h3 := hcw (m - 1) (by omega)
          rw [show m - 1 + 1 = m by omega] at h3
          have := (hL (m - 1) (by omega)).1 (hw _ h3)
          omega
        · omega
      subst hnm
      refine wpOp_mono (fun x' w'' h => ?_) (hchain n hmN x w' hf hww hch)
      obtain ⟨v, rfl, hnn, hg, hch', hfv⟩ := h
      refine ⟨fput x _ v hi hf, fun j hj hLj => ?_, n + 1, hmN, fun m hm' => ?_, ?_⟩
      · by_cases hij : ci n = j
        · subst hij
          rw [here x _ v hj hf hnn]
          exact hfv
        · simp only [if_neg hij] at hLj
          rw [key x _ j v hi hj hij]
          exact hF j _ _ _ (hv j hj hLj) hg
      · by_cases hmn : m = n
        · subst hmn; simp
        · have : ci n ≠ ci m := fun e => hmn (hcinj m n hm' hmN e.symm)
          simp only [if_neg this]
          rw [hL m hm']
          omega
      · rw [if_neg (by omega), show n + 1 - 1 = n by omega, here x _ v hi hf hnn]
        exact hch'
    · have hic' : ∀ m, m < N → ci m ≠ i := fun m hm e => hic ⟨m, hm, e⟩
      refine wpOp_mono (fun x' w'' h => ?_) (hloose i hi hic' x w' hf hww ⟨n, _, hn, hch⟩)
      obtain ⟨v, rfl, hnn, hg, hfv⟩ := h
      refine ⟨fput x _ v hi hf, fun j hj hLj => ?_, n, hn, fun m hm' => ?_, ?_⟩
      · by_cases hij : i = j
        · subst hij
          rw [here x _ v hj hf hnn]
          exact hfv
        · simp only [if_neg hij] at hLj
          rw [key x _ j v hi hj hij]
          exact hF j _ _ _ (hv j hj hLj) (GrownT.of_none hg)
      · have : i ≠ ci m := fun e => hic' m hm' e.symm
        simp only [if_neg this]
        exact hL m hm'
      · by_cases hn0 : n = 0
        · rw [if_pos hn0] at hch ⊢
          exact hC _ _ _ _ hch hg
        · rw [if_neg hn0] at hch ⊢
          rw [key x i _ v hi (hci _ (by omega)) (fun e => hic' (n - 1) (by omega) e.symm)]
          exact hC _ _ _ _ hch hg
  · intro L x w' ⟨hf, hv, n, hn, hL, hch⟩ hall
    have hnN : n = N := by
      rcases Nat.lt_or_ge n N with h | h
      · have := (hL n h).1 (hall _ (hci n h)); omega
      · omega
    subst hnN
    exact hK x w' hf (fun i hi => hv i hi (hall i hi)) hch
theorem slots_inj {l : List Nat} (h : l.Nodup) (i j s : Nat) (h1 : l[i]? = some s) (h2 : l[j]? = some s) : i = j := by
  have hi : i < l.length := by
    rcases Nat.lt_or_ge i l.length with h' | h'
    · exact h'
    · rw [List.getElem?_eq_none h'] at h1; cases h1
  exact (List.getElem?_inj hi h).1 (h1.trans h2.symm)
theorem ints_blk1 {w : World} {b : Nat} {k : Int} (h : Blk w b 3 #[.int .i64 k]) : Ints w w.heap.size (some ⟨b, 0, none⟩) [k] := by
  intro _
  refine ⟨b, 0, rfl, h.lt, fun j x hx => ?_⟩
  match j, hx with
  | 0, hx =>
    obtain rfl : k = x := by simpa using hx
    exact h.cell 0
theorem ints_blk2 {w : World} {b : Nat} {k m : Int} (h : Blk w b 3 #[.int .i64 k, .int .i64 m]) : Ints w w.heap.size (some ⟨b, 0, none⟩) [k, m] := by
  intro _
  refine ⟨b, 0, rfl, h.lt, fun j x hx => ?_⟩
  match j, hx with
  | 0, hx =>
    obtain rfl : k = x := by simpa using hx
    exact h.cell 0
  | 1, hx =>
    obtain rfl : m = x := by simpa using hx
    exact h.cell 1
theorem OutAt.grownT' {w w' : World} {o : Nat} {s : Wr} (h : OutAt w o s) (hg : w.grownBy w' (some o)) : GrownT 145 w w' := by
  obtain ⟨p, r, hb, _⟩ := h
  exact GrownT.of_by hg hb
theorem OutAt.kept' {w w' : World} {o : Nat} {s : Wr} (h : OutAt w o s) (hg : w.grownBy w' none) : OutAt w' o s := h.below (below_by hg)
def hlD (i : Nat) : Option Nat := [13, 14, 15, 16, 17, 18, 19, 20, 21, 22, 23, 24, 25, 26, 27, 28, 5][i]?
theorem hlD_inj (i j s : Nat) (_ : i < 17) (_ : j < 17) (h1 : hlD i = some s) (h2 : hlD j = some s) : i = j := slots_inj (by decide) i j s h1 h2
theorem hlD_lt (i s : Nat) (_ : i < 17) (h : hlD i = some s) : s < 39 := (by decide : ∀ x ∈ [13, 14, 15, 16, 17, 18, 19, 20, 21, 22, 23, 24, 25, 26, 27, 28, 5], x < 39) s (List.mem_of_getElem? h)
def hlC (n : Nat) : Nat := [0, 3, 7, 12, 15, 16].getD n 0
theorem hlC_inj (i j : Nat) (hi : i < 6) (hj : j < 6) (h : hlC i = hlC j) : i = j := (by decide : ∀ i, i < 6 → ∀ j, j < 6 → hlC i = hlC j → i = j) i hi j hj h
theorem hlC_lt : ∀ i, i < 6 → hlC i < 17 := by decide
def hlF (B : Nat) (h : HD) (A : Option Addr) (c : Nat) : Nat → Value → World → Prop
  | 1, v, _ => v = .int .i64 (bitN h.full : Int)
  | 2, v, w => ∃ b, v = .slice (some ⟨b, 0, none⟩) 2 2 ∧ Blk w b 3 #[.int .i64 7, .int .i64 (bitN h.full : Int)]
  | 4, v, _ => v = .pointer (some ⟨B, 0, none⟩)
  | 5, v, _ => v = .int .i64 h.seq
  | 6, v, w => ∃ b, v = .slice (some ⟨b, 0, none⟩) 1 1 ∧ Blk w b 3 #[.int .i64 h.seq]
  | 8, v, _ => v = .pointer (some ⟨B, 2, none⟩)
  | 9, v, _ => v = .slice A h.ts.length c
  | 10, v, _ => v = .int .i64 (h.ts.length : Int)
  | 11, v, w => ∃ b, v = .slice (some ⟨b, 0, none⟩) 1 1 ∧ Blk w b 3 #[.int .i64 (h.ts.length : Int)]
  | 13, v, _ => v = .pointer (some ⟨B, 2, none⟩)
  | 14, v, _ => v = .slice A h.ts.length c
  | _, _, _ => True
def hlCh (W0 : World) (h : HD) : Nat → Value → World → Prop
  | 0, _, w => Below W0.heap.size W0 w
  | 6, v, w => Below W0.heap.size W0 w ∧ ∃ g, v = .pointer (some ⟨g, 0, none⟩) ∧ W0.heap.size ≤ g ∧ OutAt w g (headSt h 5)
  | n, v, w => Below W0.heap.size W0 w ∧ ∃ g, v = .pointer (some ⟨g, 0, none⟩) ∧ W0.heap.size ≤ g ∧ OutAt w g (headSt h n)
theorem hlCh_below {W0 : World} {h : HD} {n : Nat} {v : Value} {w : World} (hc : hlCh W0 h n v w) : Below W0.heap.size W0 w := by
  unfold hlCh at hc
  split at hc
  · exact hc
  · exact hc.1
  · exact hc.1
theorem below_none' {B : Nat} {w w' w'' : World} (h : Below B w w') (hg : w'.grownBy w'' none) (hB : B ≤ w'.heap.size) : Below B w w'' := h.trans ((below_by hg).mono hB)
theorem hlCh_kept {W0 : World} {h : HD} (n : Nat) (v : Value) (w w' : World) (hc : hlCh W0 h n v w) (hg : w.grownBy w' none) : hlCh W0 h n v w' := by
  have hb := hlCh_below hc
  have hb' := below_none' hb hg hb.size
  unfold hlCh at hc ⊢
  split at hc
  · exact hb'
  · obtain ⟨_, g, hv, hW, ho⟩ := hc
    exact ⟨hb', g, hv, hW, ho.kept' hg⟩
  · obtain ⟨_, g, hv, hW, ho⟩ := hc
    exact ⟨hb', g, hv, hW, ho.kept' hg⟩
theorem hlF_kept {B : Nat} {h : HD} {A : Option Addr} {c : Nat} (i : Nat) (v : Value) (w w' : World) (hf : hlF B h A c i v w) (hg : GrownT 145 w w') : hlF B h A c i v w' := by
  unfold hlF at hf ⊢
  split at hf <;> first
    | exact hf
    | (obtain ⟨b, hv, hb⟩ := hf; exact ⟨b, hv, hb.grownT hg (by decide)⟩)
    | trivial
theorem arr39 (a : Array Value) (h : a.size = 39) : ∃ x0 x1 x2 x3 x4 x5 x6 x7 x8 x9 x10 x11 x12 x13 x14 x15 x16 x17 x18 x19 x20 x21 x22 x23 x24 x25 x26 x27 x28 x29 x30 x31 x32 x33 x34 x35 x36 x37 x38 : Value, a = #[x0, x1, x2, x3, x4, x5, x6, x7, x8, x9, x10, x11, x12, x13, x14, x15, x16, x17, x18, x19, x20, x21, x22, x23, x24, x25, x26, x27, x28, x29, x30, x31, x32, x33, x34, x35, x36, x37, x38] := by
  obtain ⟨l⟩ := a
  have h : l.length = 39 := h
  obtain ⟨x0, t1, e1, h1⟩ := cons_of h
  obtain ⟨x1, t2, e2, h2⟩ := cons_of h1
  obtain ⟨x2, t3, e3, h3⟩ := cons_of h2
  obtain ⟨x3, t4, e4, h4⟩ := cons_of h3
  obtain ⟨x4, t5, e5, h5⟩ := cons_of h4
  obtain ⟨x5, t6, e6, h6⟩ := cons_of h5
  obtain ⟨x6, t7, e7, h7⟩ := cons_of h6
  obtain ⟨x7, t8, e8, h8⟩ := cons_of h7
  obtain ⟨x8, t9, e9, h9⟩ := cons_of h8
  obtain ⟨x9, t10, e10, h10⟩ := cons_of h9
  obtain ⟨x10, t11, e11, h11⟩ := cons_of h10
  obtain ⟨x11, t12, e12, h12⟩ := cons_of h11
  obtain ⟨x12, t13, e13, h13⟩ := cons_of h12
  obtain ⟨x13, t14, e14, h14⟩ := cons_of h13
  obtain ⟨x14, t15, e15, h15⟩ := cons_of h14
  obtain ⟨x15, t16, e16, h16⟩ := cons_of h15
  obtain ⟨x16, t17, e17, h17⟩ := cons_of h16
  obtain ⟨x17, t18, e18, h18⟩ := cons_of h17
  obtain ⟨x18, t19, e19, h19⟩ := cons_of h18
  obtain ⟨x19, t20, e20, h20⟩ := cons_of h19
  obtain ⟨x20, t21, e21, h21⟩ := cons_of h20
  obtain ⟨x21, t22, e22, h22⟩ := cons_of h21
  obtain ⟨x22, t23, e23, h23⟩ := cons_of h22
  obtain ⟨x23, t24, e24, h24⟩ := cons_of h23
  obtain ⟨x24, t25, e25, h25⟩ := cons_of h24
  obtain ⟨x25, t26, e26, h26⟩ := cons_of h25
  obtain ⟨x26, t27, e27, h27⟩ := cons_of h26
  obtain ⟨x27, t28, e28, h28⟩ := cons_of h27
  obtain ⟨x28, t29, e29, h29⟩ := cons_of h28
  obtain ⟨x29, t30, e30, h30⟩ := cons_of h29
  obtain ⟨x30, t31, e31, h31⟩ := cons_of h30
  obtain ⟨x31, t32, e32, h32⟩ := cons_of h31
  obtain ⟨x32, t33, e33, h33⟩ := cons_of h32
  obtain ⟨x33, t34, e34, h34⟩ := cons_of h33
  obtain ⟨x34, t35, e35, h35⟩ := cons_of h34
  obtain ⟨x35, t36, e36, h36⟩ := cons_of h35
  obtain ⟨x36, t37, e37, h37⟩ := cons_of h36
  obtain ⟨x37, t38, e38, h38⟩ := cons_of h37
  obtain ⟨x38, t39, e39, h39⟩ := cons_of h38
  obtain rfl := List.eq_nil_of_length_eq_zero h39
  subst e39 e38 e37 e36 e35 e34 e33 e32 e31 e30 e29 e28 e27 e26 e25 e24 e23 e22 e21 e20 e19 e18 e17 e16 e15 e14 e13 e12 e11 e10 e9 e8 e7 e6 e5 e4 e3 e2 e1
  exact ⟨x0, x1, x2, x3, x4, x5, x6, x7, x8, x9, x10, x11, x12, x13, x14, x15, x16, x17, x18, x19, x20, x21, x22, x23, x24, x25, x26, x27, x28, x29, x30, x31, x32, x33, x34, x35, x36, x37, x38, rfl⟩
theorem bitN_val (b : Bool) : (bitN b : Int) = if b then 1 else 0 := by cases b <;> rfl
set_option maxRecDepth 100000 in
set_option maxHeartbeats 8000000 in
theorem hlay_valid (h : HD) (A : Option Addr) (c : Nat) (w : World) (ha : h.At w A c) (hvb : h.validB = true) :
    Calls Tryz.prog 121 #[h.val A c] w fun e w' => e = .returned (.tuple #[.string (bs h.text), .int .i64 0]) ∧ Below w.heap.size w w' := by
  have hv := HD.valid_of hvb
  have HV : Hid (∀ W, Below w.heap.size w W → Calls Tryz.prog 149 #[h.val A c] W fun e w' => e = .returned (.bool true) ∧ Below W.heap.size W w') := Lib.hid (fun W hb => by have := hvalid_any h A c W (ha.below hb); rwa [hvb] at this)
  have S2 := Lib.hid (headSt_two h)
  have S3 := Lib.hid (headSt_three hv)
  have S4 := Lib.hid (headSt_four hv)
  have S5 := Lib.hid (headSt_five hv)
  have HVV := Lib.hid hv
  have HLIE := Lib.hid ha.lie
  have HSEAL : Hid (∀ (W : World) (X : Option Addr) (cc : Nat), Txts W W.heap.size X [bs h.bytes] → Calls Tryz.prog 99 #[.int .i64 256, .slice X 1 cc] W fun e w' => e = .returned (.tuple #[.string (bs h.text), .int .i64 0]) ∧ Below W.heap.size W w') := Lib.hid (fun W X cc hx => by
    have hfit : TextsFit [bs h.bytes] := by
      have hl := h.len
      have h2 := hv.few
      refine ⟨by simp, fun x hx => ?_⟩
      rw [List.mem_singleton.1 hx, bs_size]
      omega
    have := seal_any 256 X 1 cc [bs h.bytes] W rfl hx hfit
    rw [cats_one, bs_list] at this
    have e : sealV 256 h.bytes = .tuple #[.string (bs h.text), .int .i64 0] := by unfold sealV; rw [hv.sealed]; rfl
    rwa [e] at this)
  obtain ⟨T, hT⟩ : ∃ T, T = bs h.text := ⟨_, rfl⟩
  rw [← hT] at HSEAL ⊢
  obtain ⟨Y, hY⟩ : ∃ Y, Y = bs h.bytes := ⟨_, rfl⟩
  rw [← hY] at HSEAL
  have HYE := Lib.hid hY
  have HR2 : Hid (InRange [7, (bitN h.full : Int)]) := Lib.hid (by
    intro x hx
    have := bitN_lt h.full
    simp at hx
    rcases hx with rfl | rfl <;> omega)
  have HRS : Hid (InRange [h.seq]) := Lib.hid (inRange_one (by have := hv.seq; omega) (by have := hv.seq; omega))
  have HRN : Hid (InRange [(h.ts.length : Int)]) := Lib.hid (inRange_one (by omega) (by have := hv.few; omega))
  have HRT : Hid (InRange h.ts) := Lib.hid (fun x hx => by have := hv.range x hx; omega)
  have HFEW : Hid (h.ts.length ≤ 110) := Lib.hid hv.few
  have HLEN : Hid (h.bytes.length ≤ 1000) := Lib.hid (by have h1 := h.len; have := hv.few; omega)
  have hval : h.val A c = .agg #[.int .i64 h.seq, .bool h.full, .slice A h.ts.length c] := rfl
  rw [hval] at HV ⊢
  obtain ⟨f, hf⟩ : ∃ f : Int, f = (bitN h.full : Int) := ⟨_, rfl⟩
  have HFF := Lib.hid hf
  obtain ⟨fb, hfb⟩ : ∃ fb, fb = h.full := ⟨_, rfl⟩
  have hfv : f = if fb then 1 else 0 := by rw [hf, hfb]; exact bitN_val _
  obtain ⟨sq, hsq⟩ : ∃ sq, sq = h.seq := ⟨_, rfl⟩
  obtain ⟨n, hn⟩ : ∃ n, n = h.ts.length := ⟨_, rfl⟩
  have HFB := Lib.hid hfb
  have HSQ := Lib.hid hsq
  have HNN := Lib.hid hn
  rw [← hfb, ← hsq, ← hn] at HV ⊢
  rw [← hn] at HFEW
  rw [← hn] at HRN
  rw [← hsq] at HRS
  rw [← hf] at HR2
  clear hv hvb ha hval hT hY hf hfb hsq hn
  have hnI : (n : Int) ≤ 110 := by have := HFEW.out; omega
  cases fb with
  | true =>
    have hf1 : f = 1 := hfv
    have HF1 := Lib.hid hf1
    clear hfv hf1
    go_enter Tryz.func121, Tryz.ntmps121
    go_wp2_with fail
    refine (HV.out _ ((Below.refl _ _).alloc (Nat.le_refl _) _)).mono ?_
    rintro e w1 ⟨rfl, hb1⟩
    have b0 : Blk w1 w.heap.size 99 #[.int .i64 sq, .bool true, .slice A n c] := (Blk.new w _ _).below hb1 (by simp)
    have hb : Below w.heap.size w w1 := ((Below.refl _ _).alloc (Nat.le_refl _) _).trans (hb1.mono (by simp))
    have HBW := Lib.hid hb
    have HC : Hid (∀ w', Below w1.heap.size w1 w' → w'.cell? ⟨w.heap.size, 0, none⟩ = some (.int .i64 sq) ∧ w'.cell? ⟨w.heap.size, 2, none⟩ = some (.slice A n c)) := Lib.hid (fun w' hw => ⟨(b0.below hw b0.lt).cell 0, (b0.below hw b0.lt).cell 2⟩)
    have HL1 : Hid (∀ w', Below w1.heap.size w1 w' → Ints w' w'.heap.size A h.ts) := Lib.hid (fun w' hw => ((HLIE.out.below (hb.trans (hw.mono hb.size))).more (Nat.le_trans hb.size hw.size)))
    have x1 := b0.cell 1
    simp at x1
    clear hb1 b0 hb
    go_upto_region 6 with fail
    clear x1
    refine wp_region_chain_v 145 17 hlD 6 hlC (hlF w.heap.size h A c) (hlCh w1 h) (by kernel_rfl) (by kernel_rfl) rfl hlD_inj hlD_lt hlC_lt hlC_inj ?hcw hlF_kept hlCh_kept ?h0 ?hloose ?hchain ?hK
    case hcw =>
      intro n hn
      rcases (show n = 0 ∨ n = 1 ∨ n = 2 ∨ n = 3 ∨ n = 4 by omega) with rfl | rfl | rfl | rfl | rfl <;> exact of_decide_eq_true (by kernel_rfl)
    case h0 => exact (Below.refl _ _).drew
    case hloose =>
      intro i hi hn y w2 hf hw hch
      obtain ⟨nn, vv, _, hcc⟩ := hch
      have hbe := hlCh_below hcc
      clear hcc
      rcases (show i = 0 ∨ i = 1 ∨ i = 2 ∨ i = 3 ∨ i = 4 ∨ i = 5 ∨ i = 6 ∨ i = 7 ∨ i = 8 ∨ i = 9 ∨ i = 10 ∨ i = 11 ∨ i = 12 ∨ i = 13 ∨ i = 14 ∨ i = 15 ∨ i = 16 by omega) with rfl | rfl | rfl | rfl | rfl | rfl | rfl | rfl | rfl | rfl | rfl | rfl | rfl | rfl | rfl | rfl | rfl
      · exact absurd rfl (hn 0 (by omega))
      · have e1 : y.tmps[4]?.getD undef = .int .i64 1 := by rw [hf.2.2 4 (by decide)]; rfl
        clear hf hw hn hbe
        refine wpOp_value (v := .int .i64 1) (w' := w2) rfl rfl ?_ ⟨_, rfl, (fun h => by cases h), by_refl _ _, ?_⟩
        · go_simp
        · show _ = _
          rw [← HF1.out, HFF.out]
      · have e1 : y.tmps[14]?.getD undef = .int .i64 f := (hw 1 (of_decide_eq_true (by kernel_rfl))).trans (by rw [HFF.out])
        clear hf hw hn hbe
        refine wpOp_value (v := .slice (some ⟨w2.heap.size, 0, none⟩) 2 2) (w' := w2.alloc (.cells #[.int .i64 7, .int .i64 f] 3)) rfl rfl ?_ ⟨_, rfl, (fun h => by cases h), by_alloc (by_refl _ _) _, ?_⟩
        · go_simp
        · show ∃ b, _ ∧ Blk _ b 3 #[.int .i64 7, .int .i64 (bitN h.full : Int)]
          rw [← HFF.out]
          exact ⟨_, rfl, Blk.new _ _ _⟩
      · exact absurd rfl (hn 1 (by omega))
      · have e1 : y.tmps[1]?.getD undef = .pointer (some ⟨w.heap.size, 0, none⟩) := by rw [hf.2.2 1 (by decide)]; rfl
        clear hf hw hn hbe
        refine wpOp_value (v := .pointer (some ⟨w.heap.size, 0, none⟩)) (w' := w2) rfl rfl ?_ ⟨_, rfl, (fun h => by cases h), by_refl _ _, ?_⟩
        · go_simp
        · show _ = _
          exact rfl
      · have e1 : y.tmps[17]?.getD undef = .pointer (some ⟨w.heap.size, 0, none⟩) := hw 4 (of_decide_eq_true (by kernel_rfl))
        obtain ⟨c0, c2⟩ := HC.out w2 hbe
        clear hf hw hn hbe
        refine wpOp_value (v := .int .i64 sq) (w' := w2) rfl rfl ?_ ⟨_, rfl, (fun h => by cases h), by_refl _ _, ?_⟩
        · go_simp
        · show _ = _
          rw [HSQ.out]
      · have e1 : y.tmps[18]?.getD undef = .int .i64 sq := (hw 5 (of_decide_eq_true (by kernel_rfl))).trans (by rw [HSQ.out])
        clear hf hw hn hbe
        refine wpOp_value (v := .slice (some ⟨w2.heap.size, 0, none⟩) 1 1) (w' := w2.alloc (.cells #[.int .i64 sq] 3)) rfl rfl ?_ ⟨_, rfl, (fun h => by cases h), by_alloc (by_refl _ _) _, ?_⟩
        · go_simp
        · show ∃ b, _ ∧ Blk _ b 3 #[.int .i64 h.seq]
          rw [← HSQ.out]
          exact ⟨_, rfl, Blk.new _ _ _⟩
      · exact absurd rfl (hn 2 (by omega))
      · have e1 : y.tmps[1]?.getD undef = .pointer (some ⟨w.heap.size, 0, none⟩) := by rw [hf.2.2 1 (by decide)]; rfl
        clear hf hw hn hbe
        refine wpOp_value (v := .pointer (some ⟨w.heap.size, 2, none⟩)) (w' := w2) rfl rfl ?_ ⟨_, rfl, (fun h => by cases h), by_refl _ _, ?_⟩
        · go_simp
        · show _ = _
          exact rfl
      · have e1 : y.tmps[21]?.getD undef = .pointer (some ⟨w.heap.size, 2, none⟩) := hw 8 (of_decide_eq_true (by kernel_rfl))
        obtain ⟨c0, c2⟩ := HC.out w2 hbe
        clear hf hw hn hbe
        refine wpOp_value (v := .slice A n c) (w' := w2) rfl rfl ?_ ⟨_, rfl, (fun h => by cases h), by_refl _ _, ?_⟩
        · go_simp
        · show _ = _
          rw [HNN.out]
      · have e1 : y.tmps[22]?.getD undef = .slice A n c := (hw 9 (of_decide_eq_true (by kernel_rfl))).trans (by rw [HNN.out])
        clear hf hw hn hbe
        refine wpOp_value (v := .int .i64 (n : Int)) (w' := w2) rfl rfl ?_ ⟨_, rfl, (fun h => by cases h), by_refl _ _, ?_⟩
        · go_simp
        · show _ = _
          rw [HNN.out]
      · have e1 : y.tmps[23]?.getD undef = .int .i64 (n : Int) := (hw 10 (of_decide_eq_true (by kernel_rfl))).trans (by rw [HNN.out])
        clear hf hw hn hbe
        refine wpOp_value (v := .slice (some ⟨w2.heap.size, 0, none⟩) 1 1) (w' := w2.alloc (.cells #[.int .i64 (n : Int)] 3)) rfl rfl ?_ ⟨_, rfl, (fun h => by cases h), by_alloc (by_refl _ _) _, ?_⟩
        · go_simp
        · show ∃ b, _ ∧ Blk _ b 3 #[.int .i64 (h.ts.length : Int)]
          rw [← HNN.out]
          exact ⟨_, rfl, Blk.new _ _ _⟩
      · exact absurd rfl (hn 3 (by omega))
      · have e1 : y.tmps[1]?.getD undef = .pointer (some ⟨w.heap.size, 0, none⟩) := by rw [hf.2.2 1 (by decide)]; rfl
        clear hf hw hn hbe
        refine wpOp_value (v := .pointer (some ⟨w.heap.size, 2, none⟩)) (w' := w2) rfl rfl ?_ ⟨_, rfl, (fun h => by cases h), by_refl _ _, ?_⟩
        · go_simp
        · show _ = _
          exact rfl
      · have e1 : y.tmps[26]?.getD undef = .pointer (some ⟨w.heap.size, 2, none⟩) := hw 13 (of_decide_eq_true (by kernel_rfl))
        obtain ⟨c0, c2⟩ := HC.out w2 hbe
        clear hf hw hn hbe
        refine wpOp_value (v := .slice A n c) (w' := w2) rfl rfl ?_ ⟨_, rfl, (fun h => by cases h), by_refl _ _, ?_⟩
        · go_simp
        · show _ = _
          rw [HNN.out]
      · exact absurd rfl (hn 4 (by omega))
      · exact absurd rfl (hn 5 (by omega))
    case hchain =>
      intro m hm y w2 hf hw hch
      rcases (show m = 0 ∨ m = 1 ∨ m = 2 ∨ m = 3 ∨ m = 4 ∨ m = 5 by omega) with rfl | rfl | rfl | rfl | rfl | rfl
      · have hbe : Below w1.heap.size w1 w2 := hch
        clear hf hw hch
        change wpOp _ _ _ 0 _ _ _
        refine wpOp_value (v := .pointer (some ⟨w2.heap.size, 0, none⟩)) (w' := w2.alloc (.cells #[.pointer none, .int .i64 0, .int .i64 0] 145)) rfl rfl ?_ ⟨_, rfl, (fun h => by cases h), GrownT.of_none (by_alloc (by_refl _ _) _), ⟨hbe.alloc hbe.size _, _, rfl, hbe.size, OutAt.new w2⟩, trivial⟩
        go_simp
      · obtain ⟨hbe, g, hg, hgW, ho⟩ := hch
        have e1 : y.tmps[13]?.getD undef = .pointer (some ⟨g, 0, none⟩) := hg
        obtain ⟨b, e2, hbk⟩ : ∃ b, y.tmps[15]?.getD undef = .slice (some ⟨b, 0, none⟩) 2 2 ∧ Blk w2 b 3 #[.int .i64 7, .int .i64 (bitN h.full : Int)] := hw 2 (of_decide_eq_true (by kernel_rfl))
        rw [← HFF.out] at hbk
        clear hf hw hg
        change wpOp _ _ _ 3 _ _ _
        refine wpOp_call (f := 95) (args := #[.pointer (some ⟨g, 0, none⟩), .slice (some ⟨b, 0, none⟩) 2 2]) rfl rfl (by go_simp) ((out_byte g _ _ 2 2 [7, f] w2 rfl (ints_blk2 hbk) (by simp) HR2.out ho (by simp [headSt])).mono ?_)
        rintro e w3 ⟨rfl, h3, hg3⟩
        refine ⟨_, rfl, _, rfl, (fun h => by cases h), ho.grownT' hg3, ⟨below_by_new hbe hg3 hgW, g, rfl, hgW, ?_⟩, trivial⟩
        · show OutAt w3 g (Wr.nums ⟨[], 0⟩ 1 [7, (bitN h.full : Int)])
          rw [← HFF.out]
          exact h3
      · obtain ⟨hbe, g, hg, hgW, ho⟩ := hch
        have e1 : y.tmps[16]?.getD undef = .pointer (some ⟨g, 0, none⟩) := hg
        obtain ⟨b, e2, hbk⟩ : ∃ b, y.tmps[19]?.getD undef = .slice (some ⟨b, 0, none⟩) 1 1 ∧ Blk w2 b 3 #[.int .i64 h.seq] := hw 6 (of_decide_eq_true (by kernel_rfl))
        rw [← HSQ.out] at hbk
        clear hf hw hg
        change wpOp _ _ _ 7 _ _ _
        refine wpOp_call (f := 150) (args := #[.pointer (some ⟨g, 0, none⟩), .slice (some ⟨b, 0, none⟩) 1 1]) rfl rfl (by go_simp) ((out_long g _ _ 1 1 [sq] w2 rfl (ints_blk1 hbk) (by simp) HRS.out ho (by rw [S2.out]; simp [lowBytes_length])).mono ?_)
        rintro e w3 ⟨rfl, h3, hg3⟩
        refine ⟨_, rfl, _, rfl, (fun h => by cases h), ho.grownT' hg3, ⟨below_by_new hbe hg3 hgW, g, rfl, hgW, ?_⟩, trivial⟩
        · show OutAt w3 g (Wr.nums (headSt h 2) 8 [h.seq])
          rw [← HSQ.out]
          exact h3
      · obtain ⟨hbe, g, hg, hgW, ho⟩ := hch
        have e1 : y.tmps[20]?.getD undef = .pointer (some ⟨g, 0, none⟩) := hg
        obtain ⟨b, e2, hbk⟩ : ∃ b, y.tmps[24]?.getD undef = .slice (some ⟨b, 0, none⟩) 1 1 ∧ Blk w2 b 3 #[.int .i64 (h.ts.length : Int)] := hw 11 (of_decide_eq_true (by kernel_rfl))
        rw [← HNN.out] at hbk
        clear hf hw hg
        change wpOp _ _ _ 12 _ _ _
        refine wpOp_call (f := 96) (args := #[.pointer (some ⟨g, 0, none⟩), .slice (some ⟨b, 0, none⟩) 1 1]) rfl rfl (by go_simp) ((out_half g _ _ 1 1 [(n : Int)] w2 rfl (ints_blk1 hbk) (by simp) HRN.out ho (by rw [S3.out]; simp [lowBytes_length])).mono ?_)
        rintro e w3 ⟨rfl, h3, hg3⟩
        refine ⟨_, rfl, _, rfl, (fun h => by cases h), ho.grownT' hg3, ⟨below_by_new hbe hg3 hgW, g, rfl, hgW, ?_⟩, trivial⟩
        · show OutAt w3 g (Wr.nums (headSt h 3) 2 [(h.ts.length : Int)])
          rw [← HNN.out]
          exact h3
      · obtain ⟨hbe, g, hg, hgW, ho⟩ := hch
        have e1 : y.tmps[25]?.getD undef = .pointer (some ⟨g, 0, none⟩) := hg
        have e2 : y.tmps[27]?.getD undef = .slice A n c := (hw 14 (of_decide_eq_true (by kernel_rfl))).trans (by rw [HNN.out])
        clear hf hw hg
        change wpOp _ _ _ 15 _ _ _
        refine wpOp_call (f := 96) (args := #[.pointer (some ⟨g, 0, none⟩), .slice A n c]) rfl rfl (by go_simp) ((out_half g _ A n c h.ts w2 HNN.out.symm (HL1.out w2 hbe) (by have := HNN.out; omega) HRT.out ho (by rw [S4.out]; simp [lowBytes_length])).mono ?_)
        rintro e w3 ⟨rfl, h3, hg3⟩
        exact ⟨_, rfl, _, rfl, (fun h => by cases h), ho.grownT' hg3, ⟨below_by_new hbe hg3 hgW, g, rfl, hgW, h3⟩, trivial⟩
      · obtain ⟨hbe, g, hg, hgW, ho⟩ := hch
        have e1 : y.tmps[28]?.getD undef = .pointer (some ⟨g, 0, none⟩) := hg
        clear hf hw hg
        change wpOp _ _ _ 16 _ _ _
        refine wpOp_value (v := .pointer (some ⟨g, 0, none⟩)) (w' := w2) rfl rfl ?_ ⟨_, rfl, (fun h => by cases h), GrownT.of_none (by_refl _ _), ⟨hbe, g, rfl, hgW, ho⟩, trivial⟩
        go_simp
    case hK =>
      intro y w2 hf hv hch
      obtain ⟨hbe, g, hg, hgW, ho⟩ := hch
      have e5 : y.tmps[5]?.getD undef = .pointer (some ⟨g, 0, none⟩) := hg
      have hd : y.defers = [] := hf.1
      have hsz : y.tmps.size = 39 := hf.2.1
      obtain ⟨tt, dd⟩ := y
      obtain rfl : dd = [] := hd
      have hsz : tt.size = 39 := hsz
      have HBE : Hid (Below w.heap.size w w2) := Lib.hid (HBW.out.trans (hbe.mono HBW.out.size))
      have HO := Lib.hid ho
      have HFIN : Hid (Calls Tryz.prog 98 #[.pointer (some ⟨g, 0, none⟩)] w2 fun e w' => e = .returned (.tuple #[.string Y, .int .i64 0]) ∧ Below w2.heap.size w2 w') := Lib.hid (by
        have h1 := fin_any g _ w2 ho (by rw [S5.out]; exact Wr.ok_zero _) (by rw [S5.out]; have := HLEN.out; show h.bytes.length ≤ _; omega)
        rw [S5.out] at h1
        refine h1.mono ?_
        rintro e w3 ⟨rfl, _, hb⟩
        exact ⟨by rw [HYE.out]; rfl, hb⟩)
      have e5' : tt[5]?.getD undef = .pointer (some ⟨g, 0, none⟩) := e5
      clear hf hv hg e5 hbe ho hgW
      obtain ⟨x0, x1, x2, x3, x4, x5, x6, x7, x8, x9, x10, x11, x12, x13, x14, x15, x16, x17, x18, x19, x20, x21, x22, x23, x24, x25, x26, x27, x28, x29, x30, x31, x32, x33, x34, x35, x36, x37, x38, rfl⟩ := arr39 tt hsz
      obtain rfl : x5 = .pointer (some ⟨g, 0, none⟩) := by simpa using e5'
      clear e5' hsz
      go_wp2_with fail
      refine HFIN.out.mono ?_
      rintro e w3 ⟨rfl, hb3⟩
      have HB3 : Hid (Below w.heap.size w w3) := Lib.hid (HBE.out.trans (hb3.mono HBE.out.size))
      go_wp2_with fail
      refine (HSEAL.out _ _ _ (txts_at _ _ _ _ rfl rfl)).mono ?_
      rintro e w4 ⟨rfl, hb4⟩
      go_wp2_with fail
      go_ret2
      exact ⟨rfl, (HB3.out.alloc HB3.out.size _).trans (hb4.mono (by have := HB3.out.size; simp; omega))⟩
  | false =>
    have hf1 : f = 0 := hfv
    have HF1 := Lib.hid hf1
    clear hfv hf1
    go_enter Tryz.func121, Tryz.ntmps121
    go_wp2_with fail
    refine (HV.out _ ((Below.refl _ _).alloc (Nat.le_refl _) _)).mono ?_
    rintro e w1 ⟨rfl, hb1⟩
    have b0 : Blk w1 w.heap.size 99 #[.int .i64 sq, .bool false, .slice A n c] := (Blk.new w _ _).below hb1 (by simp)
    have hb : Below w.heap.size w w1 := ((Below.refl _ _).alloc (Nat.le_refl _) _).trans (hb1.mono (by simp))
    have HBW := Lib.hid hb
    have HC : Hid (∀ w', Below w1.heap.size w1 w' → w'.cell? ⟨w.heap.size, 0, none⟩ = some (.int .i64 sq) ∧ w'.cell? ⟨w.heap.size, 2, none⟩ = some (.slice A n c)) := Lib.hid (fun w' hw => ⟨(b0.below hw b0.lt).cell 0, (b0.below hw b0.lt).cell 2⟩)
    have HL1 : Hid (∀ w', Below w1.heap.size w1 w' → Ints w' w'.heap.size A h.ts) := Lib.hid (fun w' hw => ((HLIE.out.below (hb.trans (hw.mono hb.size))).more (Nat.le_trans hb.size hw.size)))
    have x1 := b0.cell 1
    simp at x1
    clear hb1 b0 hb
    go_upto_region 6 with fail
    clear x1
    refine wp_region_chain_v 145 17 hlD 6 hlC (hlF w.heap.size h A c) (hlCh w1 h) (by kernel_rfl) (by kernel_rfl) rfl hlD_inj hlD_lt hlC_lt hlC_inj ?hcw hlF_kept hlCh_kept ?h0 ?hloose ?hchain ?hK
    case hcw =>
      intro n hn
      rcases (show n = 0 ∨ n = 1 ∨ n = 2 ∨ n = 3 ∨ n = 4 by omega) with rfl | rfl | rfl | rfl | rfl <;> exact of_decide_eq_true (by kernel_rfl)
    case h0 => exact (Below.refl _ _).drew
    case hloose =>
      intro i hi hn y w2 hf hw hch
      obtain ⟨nn, vv, _, hcc⟩ := hch
      have hbe := hlCh_below hcc
      clear hcc
      rcases (show i = 0 ∨ i = 1 ∨ i = 2 ∨ i = 3 ∨ i = 4 ∨ i = 5 ∨ i = 6 ∨ i = 7 ∨ i = 8 ∨ i = 9 ∨ i = 10 ∨ i = 11 ∨ i = 12 ∨ i = 13 ∨ i = 14 ∨ i = 15 ∨ i = 16 by omega) with rfl | rfl | rfl | rfl | rfl | rfl | rfl | rfl | rfl | rfl | rfl | rfl | rfl | rfl | rfl | rfl | rfl
      · exact absurd rfl (hn 0 (by omega))
      · have e1 : y.tmps[4]?.getD undef = .int .i64 0 := by rw [hf.2.2 4 (by decide)]; rfl
        clear hf hw hn hbe
        refine wpOp_value (v := .int .i64 0) (w' := w2) rfl rfl ?_ ⟨_, rfl, (fun h => by cases h), by_refl _ _, ?_⟩
        · go_simp
        · show _ = _
          rw [← HF1.out, HFF.out]
      · have e1 : y.tmps[14]?.getD undef = .int .i64 f := (hw 1 (of_decide_eq_true (by kernel_rfl))).trans (by rw [HFF.out])
        clear hf hw hn hbe
        refine wpOp_value (v := .slice (some ⟨w2.heap.size, 0, none⟩) 2 2) (w' := w2.alloc (.cells #[.int .i64 7, .int .i64 f] 3)) rfl rfl ?_ ⟨_, rfl, (fun h => by cases h), by_alloc (by_refl _ _) _, ?_⟩
        · go_simp
        · show ∃ b, _ ∧ Blk _ b 3 #[.int .i64 7, .int .i64 (bitN h.full : Int)]
          rw [← HFF.out]
          exact ⟨_, rfl, Blk.new _ _ _⟩
      · exact absurd rfl (hn 1 (by omega))
      · have e1 : y.tmps[1]?.getD undef = .pointer (some ⟨w.heap.size, 0, none⟩) := by rw [hf.2.2 1 (by decide)]; rfl
        clear hf hw hn hbe
        refine wpOp_value (v := .pointer (some ⟨w.heap.size, 0, none⟩)) (w' := w2) rfl rfl ?_ ⟨_, rfl, (fun h => by cases h), by_refl _ _, ?_⟩
        · go_simp
        · show _ = _
          exact rfl
      · have e1 : y.tmps[17]?.getD undef = .pointer (some ⟨w.heap.size, 0, none⟩) := hw 4 (of_decide_eq_true (by kernel_rfl))
        obtain ⟨c0, c2⟩ := HC.out w2 hbe
        clear hf hw hn hbe
        refine wpOp_value (v := .int .i64 sq) (w' := w2) rfl rfl ?_ ⟨_, rfl, (fun h => by cases h), by_refl _ _, ?_⟩
        · go_simp
        · show _ = _
          rw [HSQ.out]
      · have e1 : y.tmps[18]?.getD undef = .int .i64 sq := (hw 5 (of_decide_eq_true (by kernel_rfl))).trans (by rw [HSQ.out])
        clear hf hw hn hbe
        refine wpOp_value (v := .slice (some ⟨w2.heap.size, 0, none⟩) 1 1) (w' := w2.alloc (.cells #[.int .i64 sq] 3)) rfl rfl ?_ ⟨_, rfl, (fun h => by cases h), by_alloc (by_refl _ _) _, ?_⟩
        · go_simp
        · show ∃ b, _ ∧ Blk _ b 3 #[.int .i64 h.seq]
          rw [← HSQ.out]
          exact ⟨_, rfl, Blk.new _ _ _⟩
      · exact absurd rfl (hn 2 (by omega))
      · have e1 : y.tmps[1]?.getD undef = .pointer (some ⟨w.heap.size, 0, none⟩) := by rw [hf.2.2 1 (by decide)]; rfl
        clear hf hw hn hbe
        refine wpOp_value (v := .pointer (some ⟨w.heap.size, 2, none⟩)) (w' := w2) rfl rfl ?_ ⟨_, rfl, (fun h => by cases h), by_refl _ _, ?_⟩
        · go_simp
        · show _ = _
          exact rfl
      · have e1 : y.tmps[21]?.getD undef = .pointer (some ⟨w.heap.size, 2, none⟩) := hw 8 (of_decide_eq_true (by kernel_rfl))
        obtain ⟨c0, c2⟩ := HC.out w2 hbe
        clear hf hw hn hbe
        refine wpOp_value (v := .slice A n c) (w' := w2) rfl rfl ?_ ⟨_, rfl, (fun h => by cases h), by_refl _ _, ?_⟩
        · go_simp
        · show _ = _
          rw [HNN.out]
      · have e1 : y.tmps[22]?.getD undef = .slice A n c := (hw 9 (of_decide_eq_true (by kernel_rfl))).trans (by rw [HNN.out])
        clear hf hw hn hbe
        refine wpOp_value (v := .int .i64 (n : Int)) (w' := w2) rfl rfl ?_ ⟨_, rfl, (fun h => by cases h), by_refl _ _, ?_⟩
        · go_simp
        · show _ = _
          rw [HNN.out]
      · have e1 : y.tmps[23]?.getD undef = .int .i64 (n : Int) := (hw 10 (of_decide_eq_true (by kernel_rfl))).trans (by rw [HNN.out])
        clear hf hw hn hbe
        refine wpOp_value (v := .slice (some ⟨w2.heap.size, 0, none⟩) 1 1) (w' := w2.alloc (.cells #[.int .i64 (n : Int)] 3)) rfl rfl ?_ ⟨_, rfl, (fun h => by cases h), by_alloc (by_refl _ _) _, ?_⟩
        · go_simp
        · show ∃ b, _ ∧ Blk _ b 3 #[.int .i64 (h.ts.length : Int)]
          rw [← HNN.out]
          exact ⟨_, rfl, Blk.new _ _ _⟩
      · exact absurd rfl (hn 3 (by omega))
      · have e1 : y.tmps[1]?.getD undef = .pointer (some ⟨w.heap.size, 0, none⟩) := by rw [hf.2.2 1 (by decide)]; rfl
        clear hf hw hn hbe
        refine wpOp_value (v := .pointer (some ⟨w.heap.size, 2, none⟩)) (w' := w2) rfl rfl ?_ ⟨_, rfl, (fun h => by cases h), by_refl _ _, ?_⟩
        · go_simp
        · show _ = _
          exact rfl
      · have e1 : y.tmps[26]?.getD undef = .pointer (some ⟨w.heap.size, 2, none⟩) := hw 13 (of_decide_eq_true (by kernel_rfl))
        obtain ⟨c0, c2⟩ := HC.out w2 hbe
        clear hf hw hn hbe
        refine wpOp_value (v := .slice A n c) (w' := w2) rfl rfl ?_ ⟨_, rfl, (fun h => by cases h), by_refl _ _, ?_⟩
        · go_simp
        · show _ = _
          rw [HNN.out]
      · exact absurd rfl (hn 4 (by omega))
      · exact absurd rfl (hn 5 (by omega))
    case hchain =>
      intro m hm y w2 hf hw hch
      rcases (show m = 0 ∨ m = 1 ∨ m = 2 ∨ m = 3 ∨ m = 4 ∨ m = 5 by omega) with rfl | rfl | rfl | rfl | rfl | rfl
      · have hbe : Below w1.heap.size w1 w2 := hch
        clear hf hw hch
        change wpOp _ _ _ 0 _ _ _
        refine wpOp_value (v := .pointer (some ⟨w2.heap.size, 0, none⟩)) (w' := w2.alloc (.cells #[.pointer none, .int .i64 0, .int .i64 0] 145)) rfl rfl ?_ ⟨_, rfl, (fun h => by cases h), GrownT.of_none (by_alloc (by_refl _ _) _), ⟨hbe.alloc hbe.size _, _, rfl, hbe.size, OutAt.new w2⟩, trivial⟩
        go_simp
      · obtain ⟨hbe, g, hg, hgW, ho⟩ := hch
        have e1 : y.tmps[13]?.getD undef = .pointer (some ⟨g, 0, none⟩) := hg
        obtain ⟨b, e2, hbk⟩ : ∃ b, y.tmps[15]?.getD undef = .slice (some ⟨b, 0, none⟩) 2 2 ∧ Blk w2 b 3 #[.int .i64 7, .int .i64 (bitN h.full : Int)] := hw 2 (of_decide_eq_true (by kernel_rfl))
        rw [← HFF.out] at hbk
        clear hf hw hg
        change wpOp _ _ _ 3 _ _ _
        refine wpOp_call (f := 95) (args := #[.pointer (some ⟨g, 0, none⟩), .slice (some ⟨b, 0, none⟩) 2 2]) rfl rfl (by go_simp) ((out_byte g _ _ 2 2 [7, f] w2 rfl (ints_blk2 hbk) (by simp) HR2.out ho (by simp [headSt])).mono ?_)
        rintro e w3 ⟨rfl, h3, hg3⟩
        refine ⟨_, rfl, _, rfl, (fun h => by cases h), ho.grownT' hg3, ⟨below_by_new hbe hg3 hgW, g, rfl, hgW, ?_⟩, trivial⟩
        · show OutAt w3 g (Wr.nums ⟨[], 0⟩ 1 [7, (bitN h.full : Int)])
          rw [← HFF.out]
          exact h3
      · obtain ⟨hbe, g, hg, hgW, ho⟩ := hch
        have e1 : y.tmps[16]?.getD undef = .pointer (some ⟨g, 0, none⟩) := hg
        obtain ⟨b, e2, hbk⟩ : ∃ b, y.tmps[19]?.getD undef = .slice (some ⟨b, 0, none⟩) 1 1 ∧ Blk w2 b 3 #[.int .i64 h.seq] := hw 6 (of_decide_eq_true (by kernel_rfl))
        rw [← HSQ.out] at hbk
        clear hf hw hg
        change wpOp _ _ _ 7 _ _ _
        refine wpOp_call (f := 150) (args := #[.pointer (some ⟨g, 0, none⟩), .slice (some ⟨b, 0, none⟩) 1 1]) rfl rfl (by go_simp) ((out_long g _ _ 1 1 [sq] w2 rfl (ints_blk1 hbk) (by simp) HRS.out ho (by rw [S2.out]; simp [lowBytes_length])).mono ?_)
        rintro e w3 ⟨rfl, h3, hg3⟩
        refine ⟨_, rfl, _, rfl, (fun h => by cases h), ho.grownT' hg3, ⟨below_by_new hbe hg3 hgW, g, rfl, hgW, ?_⟩, trivial⟩
        · show OutAt w3 g (Wr.nums (headSt h 2) 8 [h.seq])
          rw [← HSQ.out]
          exact h3
      · obtain ⟨hbe, g, hg, hgW, ho⟩ := hch
        have e1 : y.tmps[20]?.getD undef = .pointer (some ⟨g, 0, none⟩) := hg
        obtain ⟨b, e2, hbk⟩ : ∃ b, y.tmps[24]?.getD undef = .slice (some ⟨b, 0, none⟩) 1 1 ∧ Blk w2 b 3 #[.int .i64 (h.ts.length : Int)] := hw 11 (of_decide_eq_true (by kernel_rfl))
        rw [← HNN.out] at hbk
        clear hf hw hg
        change wpOp _ _ _ 12 _ _ _
        refine wpOp_call (f := 96) (args := #[.pointer (some ⟨g, 0, none⟩), .slice (some ⟨b, 0, none⟩) 1 1]) rfl rfl (by go_simp) ((out_half g _ _ 1 1 [(n : Int)] w2 rfl (ints_blk1 hbk) (by simp) HRN.out ho (by rw [S3.out]; simp [lowBytes_length])).mono ?_)
        rintro e w3 ⟨rfl, h3, hg3⟩
        refine ⟨_, rfl, _, rfl, (fun h => by cases h), ho.grownT' hg3, ⟨below_by_new hbe hg3 hgW, g, rfl, hgW, ?_⟩, trivial⟩
        · show OutAt w3 g (Wr.nums (headSt h 3) 2 [(h.ts.length : Int)])
          rw [← HNN.out]
          exact h3
      · obtain ⟨hbe, g, hg, hgW, ho⟩ := hch
        have e1 : y.tmps[25]?.getD undef = .pointer (some ⟨g, 0, none⟩) := hg
        have e2 : y.tmps[27]?.getD undef = .slice A n c := (hw 14 (of_decide_eq_true (by kernel_rfl))).trans (by rw [HNN.out])
        clear hf hw hg
        change wpOp _ _ _ 15 _ _ _
        refine wpOp_call (f := 96) (args := #[.pointer (some ⟨g, 0, none⟩), .slice A n c]) rfl rfl (by go_simp) ((out_half g _ A n c h.ts w2 HNN.out.symm (HL1.out w2 hbe) (by have := HNN.out; omega) HRT.out ho (by rw [S4.out]; simp [lowBytes_length])).mono ?_)
        rintro e w3 ⟨rfl, h3, hg3⟩
        exact ⟨_, rfl, _, rfl, (fun h => by cases h), ho.grownT' hg3, ⟨below_by_new hbe hg3 hgW, g, rfl, hgW, h3⟩, trivial⟩
      · obtain ⟨hbe, g, hg, hgW, ho⟩ := hch
        have e1 : y.tmps[28]?.getD undef = .pointer (some ⟨g, 0, none⟩) := hg
        clear hf hw hg
        change wpOp _ _ _ 16 _ _ _
        refine wpOp_value (v := .pointer (some ⟨g, 0, none⟩)) (w' := w2) rfl rfl ?_ ⟨_, rfl, (fun h => by cases h), GrownT.of_none (by_refl _ _), ⟨hbe, g, rfl, hgW, ho⟩, trivial⟩
        go_simp
    case hK =>
      intro y w2 hf hv hch
      obtain ⟨hbe, g, hg, hgW, ho⟩ := hch
      have e5 : y.tmps[5]?.getD undef = .pointer (some ⟨g, 0, none⟩) := hg
      have hd : y.defers = [] := hf.1
      have hsz : y.tmps.size = 39 := hf.2.1
      obtain ⟨tt, dd⟩ := y
      obtain rfl : dd = [] := hd
      have hsz : tt.size = 39 := hsz
      have HBE : Hid (Below w.heap.size w w2) := Lib.hid (HBW.out.trans (hbe.mono HBW.out.size))
      have HO := Lib.hid ho
      have HFIN : Hid (Calls Tryz.prog 98 #[.pointer (some ⟨g, 0, none⟩)] w2 fun e w' => e = .returned (.tuple #[.string Y, .int .i64 0]) ∧ Below w2.heap.size w2 w') := Lib.hid (by
        have h1 := fin_any g _ w2 ho (by rw [S5.out]; exact Wr.ok_zero _) (by rw [S5.out]; have := HLEN.out; show h.bytes.length ≤ _; omega)
        rw [S5.out] at h1
        refine h1.mono ?_
        rintro e w3 ⟨rfl, _, hb⟩
        exact ⟨by rw [HYE.out]; rfl, hb⟩)
      have e5' : tt[5]?.getD undef = .pointer (some ⟨g, 0, none⟩) := e5
      clear hf hv hg e5 hbe ho hgW
      obtain ⟨x0, x1, x2, x3, x4, x5, x6, x7, x8, x9, x10, x11, x12, x13, x14, x15, x16, x17, x18, x19, x20, x21, x22, x23, x24, x25, x26, x27, x28, x29, x30, x31, x32, x33, x34, x35, x36, x37, x38, rfl⟩ := arr39 tt hsz
      obtain rfl : x5 = .pointer (some ⟨g, 0, none⟩) := by simpa using e5'
      clear e5' hsz
      go_wp2_with fail
      refine HFIN.out.mono ?_
      rintro e w3 ⟨rfl, hb3⟩
      have HB3 : Hid (Below w.heap.size w w3) := Lib.hid (HBE.out.trans (hb3.mono HBE.out.size))
      go_wp2_with fail
      refine (HSEAL.out _ _ _ (txts_at _ _ _ _ rfl rfl)).mono ?_
      rintro e w4 ⟨rfl, hb4⟩
      go_wp2_with fail
      go_ret2
      exact ⟨rfl, (HB3.out.alloc HB3.out.size _).trans (hb4.mono (by have := HB3.out.size; simp; omega))⟩
set_option maxRecDepth 100000 in
set_option maxHeartbeats 1000000 in
theorem hlay_no (h : HD) (A : Option Addr) (c : Nat) (w : World) (ha : h.At w A c) (hvb : h.validB = false) :
    Calls Tryz.prog 121 #[h.val A c] w fun e w' => e = .returned (.tuple #[.string ⟨#[]⟩, .int .i64 1]) ∧ Below w.heap.size w w' := by
  have HV : Hid (∀ W, Below w.heap.size w W → Calls Tryz.prog 149 #[h.val A c] W fun e w' => e = .returned (.bool false) ∧ Below W.heap.size W w') := Lib.hid (fun W hb => by have := hvalid_any h A c W (ha.below hb); rwa [hvb] at this)
  have hval : h.val A c = .agg #[.int .i64 h.seq, .bool h.full, .slice A h.ts.length c] := rfl
  rw [hval] at HV ⊢
  obtain ⟨f, hf⟩ : ∃ f, f = h.full := ⟨_, rfl⟩
  obtain ⟨q, hq⟩ : ∃ q, q = h.seq := ⟨_, rfl⟩
  obtain ⟨n, hn⟩ : ∃ n, n = h.ts.length := ⟨_, rfl⟩
  rw [← hf, ← hq, ← hn] at HV ⊢
  clear ha hvb hval hf hq hn
  go_enter Tryz.func121, Tryz.ntmps121
  go_wp2_with fail
  refine (HV.out _ ((Below.refl _ _).alloc (Nat.le_refl _) _)).mono ?_
  rintro e w1 ⟨rfl, hb1⟩
  go_wp2_with fail
  go_ret2
  exact ⟨rfl, ((Below.refl _ _).alloc (Nat.le_refl _) _).trans (hb1.mono (by simp))⟩
theorem hlay_any (h : HD) (A : Option Addr) (c : Nat) (w : World) (ha : h.At w A c) :
    Calls Tryz.prog 121 #[h.val A c] w fun e w' => e = .returned (if h.validB then .tuple #[.string (bs h.text), .int .i64 0] else .tuple #[.string ⟨#[]⟩, .int .i64 1]) ∧ Below w.heap.size w w' := by
  cases hv : h.validB with
  | true => rw [if_pos rfl]; exact hlay_valid h A c w ha hv
  | false =>
    rw [if_neg (by decide)]
    exact hlay_no h A c w ha hv
def walC (gd : Nat) (seq : Int) (up : Bool) (k : Int) : Array Value := #[.pointer (some ⟨gd, 0, none⟩), .int .i64 seq, .bool false, .slice none 0 0, .bool up, .int .i64 k]
section
variable {w : World} {gw gd n : Nat} {seq k : Int} {up : Bool} {O : List Nat} {S : DS}
set_option maxRecDepth 100000 in
set_option maxHeartbeats 1000000 in
theorem wsize_any (h : Blk w gw 101 (walC gd seq up k)) (hd : DiskAt w O gd S) (hn : S.now.length = n) (h1 : 111 ≤ n) (h2 : n ≤ 2000) :
    Calls Tryz.prog 35 #[.pointer (some ⟨gw, 0, none⟩)] w fun e w' => e = .returned (.int .i64 ((n : Int) - 111)) ∧ w = w' := by
  have c0 := h.cell 0
  simp [walC] at c0
  have HS : Hid (Calls Tryz.prog 65 #[.pointer (some ⟨gd, 0, none⟩)] w fun e w' => e = .returned (.int .i64 (n : Int)) ∧ w = w') := Lib.hid (by rw [← hn]; exact dsize_any hd)
  have h1 : (111 : Int) ≤ (n : Int) := by omega
  have h2 : (n : Int) ≤ 2000 := by omega
  have hm : max 0 ((n : Int) - 111) = (n : Int) - 111 := by omega
  clear h hd hn
  go_enter Tryz.func35, Tryz.ntmps35
  go_wp2_with (go_at_call 65; refine HS.out.mono ?_; rintro e w1 ⟨rfl, rfl⟩)
  go_ret
  exact ⟨rfl, rfl⟩
set_option maxRecDepth 100000 in
set_option maxHeartbeats 1000000 in
theorem whas_any (at_ : Int) (h : Blk w gw 101 (walC gd seq up k)) (hd : DiskAt w O gd S) (hn : S.now.length = n) (h1 : 111 ≤ n) (h2 : n ≤ 2000) :
    Calls Tryz.prog 103 #[.pointer (some ⟨gw, 0, none⟩), .int .i64 at_] w fun e w' => e = .returned (.bool (decide (0 ≤ at_ ∧ at_ < (n : Int) - 111))) ∧ w = w' := by
  have HS := Lib.hid (wsize_any h hd hn h1 h2)
  clear h hd hn h1 h2
  by_cases h0 : 0 ≤ at_
  · by_cases h3 : at_ < (n : Int) - 111
    · rw [show decide (0 ≤ at_ ∧ at_ < (n : Int) - 111) = true by simp; omega]
      go_enter Tryz.func103, Tryz.ntmps103
      go_wp2_with (go_at_call 35; refine HS.out.mono ?_; rintro e w1 ⟨rfl, rfl⟩)
      go_ret
      exact ⟨rfl, rfl⟩
    · rw [show decide (0 ≤ at_ ∧ at_ < (n : Int) - 111) = false by simp; omega]
      go_enter Tryz.func103, Tryz.ntmps103
      go_wp2_with (go_at_call 35; refine HS.out.mono ?_; rintro e w1 ⟨rfl, rfl⟩)
      go_ret
      exact ⟨congrArg (fun b => Ending.returned (Value.bool b)) (decide_eq_false (by omega)), rfl⟩
  · rw [show decide (0 ≤ at_ ∧ at_ < (n : Int) - 111) = false by simp; omega]
    go_enter Tryz.func103, Tryz.ntmps103
    go_wp2_with fail
    go_ret
    exact ⟨rfl, rfl⟩
set_option maxHeartbeats 1000000 in
theorem wup_any (h : Blk w gw 101 (walC gd seq up k)) :
    Calls Tryz.prog 55 #[.pointer (some ⟨gw, 0, none⟩)] w fun e w' => e = .returned (.bool up) ∧ w = w' := by
  have c1 := h.cell 4
  simp [walC] at c1
  clear h
  go_enter Tryz.func55, Tryz.ntmps55
  go_wp2_with fail
  go_ret
  exact ⟨rfl, rfl⟩
set_option maxRecDepth 100000 in
set_option maxHeartbeats 1000000 in
theorem wread_any (at_ : Int) (h : Blk w gw 101 (walC gd seq true k)) (hd : DiskAt w O gd S) (hn : S.now.length = n) (h1 : 111 ≤ n) (h2 : n ≤ 2000) (hz : ∀ x ∈ S.now, x.size ≤ 100000) :
    Calls Tryz.prog 58 #[.pointer (some ⟨gw, 0, none⟩), .int .i64 at_] w fun e w' => e = .returned (if 0 ≤ at_ ∧ at_ < (n : Int) - 111 then .tuple #[.string (S.read (111 + at_)), .int .i64 (S.errR (111 + at_))] else .tuple #[.string ⟨#[]⟩, .int .i64 15]) ∧ Below w.heap.size w w' := by
  have c0 := h.cell 0
  have c4 := h.cell 4
  simp [walC] at c0 c4
  have HH := Lib.hid (whas_any at_ h hd hn h1 h2)
  by_cases hr : 0 ≤ at_ ∧ at_ < (n : Int) - 111
  · rw [if_pos hr]
    have HR := Lib.hid (dread_any (111 + at_) hd hz)
    obtain ⟨X, hX⟩ : ∃ X, X = S.read (111 + at_) := ⟨_, rfl⟩
    obtain ⟨E, hE⟩ : ∃ E, E = S.errR (111 + at_) := ⟨_, rfl⟩
    rw [← hX, ← hE] at HR ⊢
    rw [decide_eq_true hr] at HH
    obtain ⟨r0, r1⟩ := hr
    have h2 : (n : Int) ≤ 2000 := by omega
    clear h hd hn h1 hz hX hE
    go_enter Tryz.func58, Tryz.ntmps58
    go_wp2_with (go_at_call 103; refine HH.out.mono ?_; rintro e w1 ⟨rfl, rfl⟩)
    refine HR.out.mono ?_
    rintro e w1 ⟨rfl, hb⟩
    go_wp2_with fail
    go_ret2
    exact ⟨rfl, hb⟩
  · rw [if_neg hr]
    rw [decide_eq_false hr] at HH
    clear h hd hn h1 h2 hz hr
    go_enter Tryz.func58, Tryz.ntmps58
    go_wp2_with (go_at_call 103; refine HH.out.mono ?_; rintro e w1 ⟨rfl, rfl⟩)
    go_ret2
    exact ⟨rfl, Below.refl _ _⟩
end
def secIs (h : HD) (X : ByteArray) (k : Int) : Prop := if h.validB then X = bs h.text ∧ k = 0 else X = ⟨#[]⟩ ∧ k = 1
set_option maxRecDepth 100000 in
set_option maxHeartbeats 2000000 in
theorem wsector_any (h : HD) (A : Option Addr) (c : Nat) (w : World) (ha : h.At w A c) :
    Calls Tryz.prog 92 #[h.val A c] w fun e w' => ∃ b X k, e = .returned (.tuple #[.slice (some ⟨b, 0, none⟩) 1 1, .int .i64 k]) ∧ secIs h X k ∧ Blk w' b 90 #[.int .i64 0, .string X] ∧ w.heap.size ≤ b ∧ Below w.heap.size w w' := by
  obtain ⟨X, k, hXk, hcase⟩ : ∃ X k, (if h.validB then Value.tuple #[.string (bs h.text), .int .i64 0] else .tuple #[.string ⟨#[]⟩, .int .i64 1]) = .tuple #[.string X, .int .i64 k] ∧ secIs h X k := by
    unfold secIs
    cases h.validB with
    | true => exact ⟨_, _, rfl, rfl, rfl⟩
    | false => exact ⟨_, _, rfl, rfl, rfl⟩
  have HL : Hid (∀ W, Below w.heap.size w W → Calls Tryz.prog 121 #[h.val A c] W fun e w' => e = .returned (.tuple #[.string X, .int .i64 k]) ∧ Below W.heap.size W w') := Lib.hid (fun W hW => by
    have := hlay_any h A c W (ha.below hW)
    rw [hXk] at this
    exact this)
  have HC := Lib.hid hcase
  obtain ⟨seq, full, ts⟩ := h
  unfold HD.val at HL ⊢
  simp only at HL ⊢
  clear ha hXk hcase
  obtain ⟨n, hn⟩ : ∃ n, n = ts.length := ⟨_, rfl⟩
  rw [← hn] at HL ⊢
  clear hn
  go_enter Tryz.func92, Tryz.ntmps92
  go_wp2_with fail
  refine (HL.out _ ((Below.refl _ _).alloc (Nat.le_refl _) _)).mono ?_
  rintro e w1 ⟨rfl, hb1⟩
  have HB : Hid (Below w.heap.size w w1) := Lib.hid (((Below.refl _ _).alloc (Nat.le_refl _) _).trans (hb1.mono (by simp)))
  clear hb1
  go_wp2_with fail
  go_ret2
  exact ⟨w1.heap.size, X, k, rfl, HC.out, Blk.new _ _ _, HB.out.size, HB.out.alloc HB.out.size _⟩
end Go.Proofs.YtiagofgcinlnhaaGreatDoor
