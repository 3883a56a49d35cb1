/-
  The chains on a Desk, over each call that the statement's law makes. No statement is proved here.
-/
import Derived.Test.YtingkbeifohihaaGreatDoorMarkRefs
import Derived.Test.YtingkbeifohihaaGreatDoorGrow
import Derived.Test.YtingkbeifohihaaGreatDoorLinkSmall
import Derived.Test.YtingkbeifohihaaGreatDoorChainRingsWalk
import Derived.Test.YtingkbeifohihaaGreatDoorBrickGet
import Derived.Deep.SlicePairs
import Derived.Deep.Slices
import Derived.Lib.SmallJoins
import Derived.Deep.RegionHeld3
import Derived.Deep.RegionWith
import Derived.Test.YtingkbeifohihaaGreatDoorDeskAwake
import Derived.Test.YtingkbeifohihaaGreatDoorRoomSmall
import Derived.Test.YtingkbeifohihaaGreatDoorHeadLib
import Derived.Test.YtingkbeifohihaaGreatDoorDiskCalls
import Derived.Maps.AppendAt
import Derived.Deep.AppendLies
namespace Go.Proofs.YtingkbeifohihaaGreatDoor
open Go.RowKit
set_option maxRecDepth 100000
set_option maxHeartbeats 8000000
theorem wL (g : Int) (b : ByteArray) (w : World) (hb : b.size <= 1000000) :
  Calls Tryz.prog 16 #[.int .i64 (cX g), .string b] w fun e w' => e = .returned (.agg #[.int .i64 (cX g), .string (zO g b)]) /\ Below w.heap.size w w' :=
 tA (cX g) b [b] w hb (eW b).symm
theorem lI (w : World) : Calls Tryz.prog 7 #[] w fun e w' => e = .returned (.bool true) /\ Below w.heap.size w w' := by
 have HFR := Lib.hid (lQ (N := 150) (by omega) w w (Below.refl _ _))
 have hjn : eE [⟨#[97]⟩, ⟨#[98, 99]⟩] = ⟨#[97, 98, 99]⟩ := rfl
 have HPR : Hid (∀ w1, Calls Tryz.prog 16 #[.int .i64 1, .string ⟨#[97, 98, 99]⟩] w1 fun e w' => e = .returned (.agg #[.int .i64 1, .string (zO 1 ⟨#[97, 98, 99]⟩)]) /\ Below w1.heap.size w1 w') := Lib.hid (fun w1 => wL 1 ⟨#[97, 98, 99]⟩ w1 (by decide))
 have HKD : Hid (∀ w1, Calls Tryz.prog 18 #[.int .i64 3] w1 fun e w' => e = .returned (.int .i64 2) /\ Below w1.heap.size w1 w') := Lib.hid (fun w1 => (mI 3 w1).mono fun e w' h => ⟨h.1, by rw [h.2]; exact Below.refl _ _⟩)
 have HJN := Lib.hid hjn
 clear hjn
 go_enter Tryz.func7, Tryz.ntmps7
 go_wp2_with fail
 refine HFR.out.mono ?_
 rintro e w1 ⟨g, gd, K, h, rfl, hs1, hf⟩
 have HP : Hid (∀ (W : World) (b : Nat), Below w1.heap.size w1 W -> dL W W.heap.size (some ⟨b, 0, none⟩) [⟨#[97]⟩, ⟨#[98, 99]⟩] -> _) := Lib.hid (fun W b hb hx => ((BK.fresh hs1 hf).below hb).put (gen := 1) (by omega) (some ⟨b, 0, none⟩) 2 2 [⟨#[97]⟩, ⟨#[98, 99]⟩] rfl hx (by omega) (by omega) rfl (by decide))
 clear hs1 hf HFR
 go_wp2_with fail
 refine (HP.out _ _ ((Below.refl _ _).alloc (Nat.le_refl _) _) (jU _ _ _ _ rfl rfl)).mono ?_
 rintro e w2 ⟨K2, p, rfl, hb2⟩
 rw [HJN.out] at hb2
 have HB2 : Hid (Below w.heap.size w w2) := Lib.hid hb2.base
 have HGT := Lib.hid (hb2.get (refs := 1) (gen := 1) (b := ⟨#[97, 98, 99]⟩) (p := p) (by simp) rfl)
 clear hb2 HP
 unfold Ci at HGT
 go_wp2_with fail
 refine HGT.out.mono ?_
 rintro e w3 ⟨rfl, hb3⟩
 have HB3 := Lib.hid (HB2.out.trans (hb3.mono HB2.out.size))
 clear hb3 HGT HB2
 rw [show cX 1 = 1 from rfl]
 obtain ⟨S, hS⟩ : ∃ S, S = zO 1 ⟨#[97, 98, 99]⟩ := ⟨_, rfl⟩
 rw [<- hS] at HPR
 rw [<- hS]
 clear hS
 have HSS : Hid ((S.toList == S.toList) = true) := Lib.hid (by rw [fC]; exact decide_eq_true rfl)
 go_upto_region 6 with fail
 obtain ⟨gb, hgb⟩ : ∃ gb, gb = w3.heap.size := ⟨_, rfl⟩
 obtain ⟨w4, hw4⟩ : ∃ w4, w4 = w3.alloc (.cells #[.int .i64 1, .int .i64 1, .int .i64 1, .string S, .string ⟨#[97, 98, 99]⟩] 38) := ⟨_, rfl⟩
 have HK4 : Hid (aG w4 gb 38 #[.int .i64 1, .int .i64 1, .int .i64 1, .string S, .string ⟨#[97, 98, 99]⟩]) := Lib.hid (by rw [hw4, hgb]; exact aG.new w3 _ _)
 have HB4 : Hid (Below w.heap.size w w4) := Lib.hid (by rw [hw4]; exact HB3.out.alloc HB3.out.size _)
 have HBK : Hid (∀ w', Below w4.heap.size w4 w' -> aG w' gb _ _) := Lib.hid (fun w' hw => HK4.out.below hw HK4.out.lt)
 rw [<- hw4, <- hgb]
 clear hw4 hgb HB3 HK4
 refine cE (Below w4.heap.size w4) (by kernel_rfl) (by kernel_rfl) ⟨rfl, rfl, rfl, Nat.le_refl _, fun _ _ => rfl⟩ ?_
 iterate 8 refine aE (fun w' hw K hK => by go_simp; exact hK) ⟨_, rfl, Nat.le_of_ble_eq_true rfl⟩ ⟨_, Below.refl _ _⟩ ?_
 refine aE (fun w' hw K hK => by obtain ⟨⟨c0, c1, c2, c3, c4⟩, -⟩ := oB (HBK.out w' hw); go_simp; exact hK) ⟨_, rfl, Nat.le_of_ble_eq_true rfl⟩ ⟨_, Below.refl _ _⟩ ?_
 iterate 4 refine aE (fun w' hw K hK => by go_simp; exact hK) ⟨_, rfl, Nat.le_of_ble_eq_true rfl⟩ ⟨_, Below.refl _ _⟩ ?_
 refine aE (fun w' hw K hK => by obtain ⟨⟨c0, c1, c2, c3, c4⟩, -⟩ := oB (HBK.out w' hw); go_simp; exact hK) ⟨_, rfl, Nat.le_of_ble_eq_true rfl⟩ ⟨_, Below.refl _ _⟩ ?_
 iterate 4 refine aE (fun w' hw K hK => by go_simp; exact hK) ⟨_, rfl, Nat.le_of_ble_eq_true rfl⟩ ⟨_, Below.refl _ _⟩ ?_
 refine aE (fun w' hw K hK => by obtain ⟨⟨c0, c1, c2, c3, c4⟩, -⟩ := oB (HBK.out w' hw); go_simp; exact hK) ⟨_, rfl, Nat.le_of_ble_eq_true rfl⟩ ⟨_, Below.refl _ _⟩ ?_
 refine eI (fun w' hw => (HPR.out w').mono fun e w'' ⟨he, hb⟩ => ⟨he, hw.trans (hb.mono hw.size)⟩) (by go_simp) (fun w' hw => by go_simp) ?_
 simp only [Act.put, List.setIfInBounds_toArray, List.set_cons_succ, List.set_cons_zero]
 refine aE (fun w' hw K hK => by have hss := HSS.out; go_simp; exact hK) ⟨_, rfl, Nat.le_of_ble_eq_true rfl⟩ ⟨_, Below.refl _ _⟩ ?_
 iterate 2 refine aE (fun w' hw K hK => by go_simp; exact hK) ⟨_, rfl, Nat.le_of_ble_eq_true rfl⟩ ⟨_, Below.refl _ _⟩ ?_
 refine eI (fun w' hw => (HKD.out w').mono fun e w'' ⟨he, hb⟩ => ⟨he, hw.trans (hb.mono hw.size)⟩) (by go_simp) (fun w' hw => by go_simp) ?_
 simp only [Act.put, List.setIfInBounds_toArray, List.set_cons_succ, List.set_cons_zero]
 iterate 3 refine aE (fun w' hw K hK => by go_simp; exact hK) ⟨_, rfl, Nat.le_of_ble_eq_true rfl⟩ ⟨_, Below.refl _ _⟩ ?_
 intro w5 hb5
 go_wp2_with fail
 go_ret
 exact ⟨rfl, HB4.out.trans (hb5.mono HB4.out.size)⟩
def fG (Ms : List MK) (base : Nat) (e : TypeId) (size : Nat) (v : Value) (n : Nat) (xs : List Value) : Prop :=
 xs.length = n * size /\
 ((v = .slice none 0 0 /\ n = 0) \/
  ∃ g cap cur, v = .slice (some ⟨g, 0, none⟩) n cap /\ base <= g /\ MK.held g (.cells cur e (0, 0)) ∈ Ms /\ n <= cap /\ cap <= maxLen /\ cur.size = cap * size /\ cur.toList.take (n * size) = xs)
section
variable {w0 w w' : World} {g gd m N : Nat} {K : KD} {Ms Ms' : List MK} {base : Nat} {e : TypeId} {size : Nat} {v : Value} {n : Nat} {xs : List Value}
theorem fG.nil : fG Ms base e size (.slice none 0 0) 0 [] := ⟨by simp, .inl ⟨rfl, rfl⟩⟩
theorem fG.row (h : fG Ms base e size v n xs) (s : eK w0 w g gd m N K Ms) : w.ownsRow base e size v n xs := by
 refine ⟨h.1, ?_⟩
 rcases h.2 with h | ⟨b, cap, cur, h1, h2, h3, h4⟩
 ·exact .inl h
 ·exact .inr ⟨b, cap, cur, h1, h2, s.held h3, h4⟩
end
section
variable {w0 w w' : World} {g gd m N : Nat} {h : List ByteArray} {K : KD} {Ms : List MK} {cs l1 l2 : List CH} {c : CH} {p : Option Addr} {cap : Nat}
theorem Qq {c0 : Nat} (s : eK w0 w g gd m N K Ms) (r : bU N K h c0) (hm : m < 1000000) :
  Calls Tryz.prog 13 #[.pointer (some ⟨g, 0, none⟩)] w fun e w' => ∃ A c, e = .returned (.slice A (cH K).length c) /\ w'.ownsRow w.heap.size 3 1 (.slice A (cH K).length c) (cH K).length ((cH K).map (Value.int .i64)) /\ Below w.heap.size w w' := by
 obtain ⟨P, h1, h2, h3, h4⟩ := s
 exact Kn h1 r.ok hm
theorem eK.store {x : Nat} {o : Obj} (s : eK w0 w g gd m N K Ms) (hx : MK.held x o ∈ Ms) (hx0 : w0.heap.size <= x) (hk : aR [x] w w') : eK w0 w' g gd m N K [] := by
 obtain ⟨P, h1, h2, h3, h4⟩ := s
 have hxP : x ∉ P := (h4 _ hx).1
 refine ⟨P, h1.kept (fun b hb => hk.block b (h1.lt hb) (by simp; exact fun e => hxP (e ▸ hb))), h2, h3.trans (hk.below (fun b hb => by simp at hb; omega) h3.size), fun _ h => by cases h⟩
end
end Go.Proofs.YtingkbeifohihaaGreatDoor
