/-
  The code's mayBe by its contract. Condition: lists no longer than a process can hold.
-/
import Derived.Test.YtdgoilkgplnhfaaGreatC07
import Derived.Lib.ConvBytes
import Derived.Deep.RegionWith
import Derived.Shelf.Abstract
set_option maxRecDepth 100000
set_option maxHeartbeats 16000000
namespace Go.Proofs.YtdgoilkgplnhfaaGreat
open Go.RowKit Go.Lib
def ntL (bs : By) : List Nat := bs.map UInt8.toNat
def MayZ (bs : By) (NZ OZ : List Int) : Prop := bs.length = 256 ∧ 1 ≤ OZ.length ∧ OZ.length ≤ 65536 ∧ NZ.length = OZ.length * (mxL (ntL bs) + 1) ∧ NZ.any (noneB OZ.length) = false ∧ OZ.any nlB = false
def TellsB (P : Prop) (e : Ending) : Prop := ∃ b : Bool, e = .returned (.bool b) ∧ (b = true ↔ P)
theorem enters74 : ∀ args w, (callFunc 74 args).run Tryz.prog w = .ok (.enter 74 args) w := enters_of Tryz.func74 (by kernel_rfl) rfl
theorem enters75 : ∀ args w, (callFunc 75 args).run Tryz.prog w = .ok (.enter 75 args) w := enters_of Tryz.func75 (by kernel_rfl) rfl
theorem mxL_lt (bs : By) : mxL (ntL bs) < 256 := by
 have key : ∀ (L : List Nat) (a : Nat), a < 256 → (∀ x ∈ L, x < 256) → L.foldl max a < 256 := by
  intro L
  induction L with
  | nil => intro a ha _; exact ha
  | cons x L ih =>
    intro a ha hx
    rw [List.foldl_cons]
    refine ih _ ?_ (fun y hy => hx y (List.mem_cons_of_mem _ hy))
    have := hx x List.mem_cons_self
    omega
 refine key _ 0 (by decide) (fun x hx => ?_)
 obtain ⟨y, _, rfl⟩ := List.mem_map.1 hx
 exact y.toNat_lt
theorem bytes_below (w1 : World) (s : ByteArray) : Below w1.heap.size w1 (Lib.bytesWorld w1.drew 5 s) :=
 ⟨rfl, rfl, rfl, by rw [Lib.bytesWorld_size]; exact Nat.le_succ _, fun b hb => Lib.bytesWorld_at_old w1.drew 5 s b hb⟩
theorem mayBe_any (bs : By) (na oa : Option Addr) (nc oc : Nat) (NZ OZ : List Int) (w : World) (hnl : NZ.length ≤ 140737488351232) (hol : OZ.length ≤ 140737488351232) (hnx : ZAt w na NZ) (hou : ZAt w oa OZ) :
 Calls Tryz.prog 33 #[auV bs na NZ.length nc oa OZ.length oc] w fun e w' => TellsB (MayZ bs NZ OZ) e ∧ Below w.heap.size w w' := by
 have hmf : ∀ (fn : Fn) (first cap : Array Value) (w : World), (Instr.makeFunc fn first cap).run Tryz.prog w = .ok (.func fn first cap) w := fun _ _ _ _ => rfl
 have X1 := hide (al (Below.refl w.heap.size w) (.cells #[.string ⟨bs.toArray⟩, .slice na NZ.length nc, .slice oa OZ.length oc] 24))
 have B1 := hide (heap_alloc_new w (.cells #[.string ⟨bs.toArray⟩, .slice na NZ.length nc, .slice oa OZ.length oc] 24))
 have HNX := hide hnx
 have HOU := hide hou
 clear hnx hou
 unfold auV
 by_cases h1 : bs.length = 256
 · have h1' : (bs.length : Int) = 256 := by omega
   by_cases h2 : (OZ.length : Int) < 1
   · have HN : Hid (¬ MayZ bs NZ OZ) := fun h => by have := h.2.1; omega
     go_enter Tryz.func33, Tryz.ntmps33
     go_wp2
     go_ret
     exact ⟨⟨false, rfl, ⟨fun h => (by cases h), fun h => absurd h HN.out⟩⟩, X1.out⟩
   · by_cases h3 : (65536 : Int) < (OZ.length : Int)
     · have HN : Hid (¬ MayZ bs NZ OZ) := fun h => by have := h.2.2.1; omega
       go_enter Tryz.func33, Tryz.ntmps33
       go_wp2
       go_ret
       exact ⟨⟨false, rfl, ⟨fun h => (by cases h), fun h => absurd h HN.out⟩⟩, X1.out⟩
     · have HL1 := hide h1
       obtain ⟨w1, hw1⟩ : ∃ w1, w1 = w.alloc (.cells #[.string ⟨bs.toArray⟩, .slice na NZ.length nc, .slice oa OZ.length oc] 24) := ⟨_, rfl⟩
       rw [← hw1] at X1 B1
       have e0 : w1.cell? ⟨w.heap.size, 0, none⟩ = some (.string ⟨bs.toArray⟩) := by rw [cell_of_row _ _ _ _ _ _ B1.out]; rfl
       have e1 : w1.cell? ⟨w.heap.size, 1, none⟩ = some (.slice na NZ.length nc) := by rw [cell_of_row _ _ _ _ _ _ B1.out]; rfl
       have e2 : w1.cell? ⟨w.heap.size, 2, none⟩ = some (.slice oa OZ.length oc) := by rw [cell_of_row _ _ _ _ _ _ B1.out]; rfl
       clear h1
       go_enter Tryz.func33, Tryz.ntmps33
       go_upto_region 3 with fail
       rw [← hw1]
       clear hw1
       have hwl : w.heap.size < w1.heap.size := lt_of_block B1.out
       have n1 : ¬ w.heap.size = w1.heap.size := by omega
       have hcv := Lib.run_convert_string_bytes (P := Tryz.prog) w1.drew 9 89 5 ⟨bs.toArray⟩ Tryz.underlying9 Tryz.underlying89 Tryz.underlying5
       obtain ⟨wB, hwB⟩ : ∃ wB, wB = Lib.bytesWorld w1.drew 5 ⟨bs.toArray⟩ := ⟨_, rfl⟩
       have XB : Hid (Below w1.heap.size w1 wB) := by rw [hwB]; exact bytes_below w1 _
       have k0 := (XB.out.cell (p := ⟨w.heap.size, 0, none⟩) hwl).trans e0
       have k1 := (XB.out.cell (p := ⟨w.heap.size, 1, none⟩) hwl).trans e1
       have k2 := (XB.out.cell (p := ⟨w.heap.size, 2, none⟩) hwl).trans e2
       have HMX : Hid (Calls Tryz.prog 73 #[.slice (some ⟨w1.heap.size, 0, none⟩) bs.length (grownCap w1.drew bs.length 0 5)] wB fun e w' => e = .returned (.int .u8 ((mxL (ntL bs) : Nat) : Int)) ∧ w' = wB) := by
        have hlen : (ntL bs).length = bs.length := by unfold ntL; rw [List.length_map]
        have := max_any w1.heap.size (grownCap w1.drew bs.length 0 5) (ntL bs) wB (by rw [hlen, HL1.out]; decide) (by rw [hlen, HL1.out]; decide) (fun i hi => by
         have hi' : i < bs.length := by rwa [hlen] at hi
         rw [hwB]
         have := Lib.bytesWorld_cell w1.drew 5 ⟨bs.toArray⟩ i hi'
         simp only [ntL, List.getElem_map]
         rw [show (⟨w1.heap.size, i, none⟩ : Addr) = ⟨w1.drew.heap.size, i, none⟩ from rfl, this]
         simp [List.getD_eq_getElem?_getD, hi'])
        rw [hlen] at this
        exact this
       have hcv' : (convert 9 89 (.string ⟨bs.toArray⟩)).run Tryz.prog w1.drew = .ok (.slice (some ⟨w1.heap.size, 0, none⟩) bs.length (grownCap w1.drew bs.length 0 5)) wB := by rw [hwB]; exact hcv
       clear hcv hwB
       have hml := mxL_lt bs
       have HMZ : Hid (NZ.length = OZ.length * (mxL (ntL bs) + 1) → (NZ.any (noneB OZ.length) = false ∧ OZ.any nlB = false ↔ MayZ bs NZ OZ)) := fun h => ⟨fun h' => ⟨HL1.out, by omega, by omega, h, h'.1, h'.2⟩, fun h' => h'.2.2.2.2⟩
       have HMN : Hid (¬ NZ.length = OZ.length * (mxL (ntL bs) + 1) → ¬ MayZ bs NZ OZ) := fun h h' => h h'.2.2.2.1
       generalize mxL (ntL bs) = m at *
       have hmm : OZ.length * (m + 1) ≤ 16777216 := by
        have := Nat.mul_le_mul (show OZ.length ≤ 65536 by omega) (show m + 1 ≤ 256 by omega)
        omega
       have f1 : IntKind.i64.wrap (m : Int) = (m : Int) := w64_n _ (by omega)
       have f2 : IntKind.i64.wrap ((m : Int) + 1) = ((m + 1 : Nat) : Int) := by rw [show (m : Int) + 1 = ((m + 1 : Nat) : Int) by simp]; exact w64_n _ (by omega)
       have f3 : IntKind.i64.wrap ((OZ.length : Int) * ((m : Int) + 1)) = ((OZ.length * (m + 1) : Nat) : Int) := by rw [show (OZ.length : Int) * ((m : Int) + 1) = ((OZ.length * (m + 1) : Nat) : Int) by simp]; exact w64_n _ (by omega)
       generalize OZ.length * (m + 1) = q at *
       go_cut [34] (fun s34 wx => ∃ b : Bool, s34 = .bool b ∧ Hid (b = true ↔ ¬ NZ.length = q) ∧ Hid (Below w1.heap.size w1 wx))
       case first =>
        as_aux_lemma =>
         clear HMZ HMN
         go_region_with (go_at_call 73; refine HMX.out.mono ?_; rintro e w9 ⟨rfl, hw9⟩; have hw9 := hw9.symm; subst hw9)
         all_goals
          go_wp2
          go_meet
          exact ⟨_, rfl, ⟨fun h9 => by simp at h9; omega, fun h9 => by simp; omega⟩, XB⟩
       case rest =>
        obtain ⟨b, rfl, HB, X5⟩ := hcut
        rename World => wz
        as_aux_lemma =>
         have d0 := (X5.out.cell (p := ⟨w.heap.size, 0, none⟩) hwl).trans e0
         have d1 := (X5.out.cell (p := ⟨w.heap.size, 1, none⟩) hwl).trans e1
         have d2 := (X5.out.cell (p := ⟨w.heap.size, 2, none⟩) hwl).trans e2
         have XZ : Hid (Below w.heap.size w wz) := bt X1.out X5.out (Nat.le_refl _)
         clear k0 k1 k2 e0 e1 e2 hcv' XB HMX
         cases b with
         | true =>
           have HNM := hide (HMN.out (HB.out.1 rfl))
           go_wp2
           go_ret
           exact ⟨⟨false, rfl, ⟨fun h => (by cases h), fun h => absurd h HNM.out⟩⟩, XZ.out⟩
         | false =>
           have h4 : NZ.length = q := Classical.byContradiction fun h9 => by have := HB.out.2 h9; cases this
           have HT := hide (HMZ.out h4)
           clear h4 HMZ HMN HB
           have hwz : w.heap.size < wz.heap.size := Nat.lt_of_lt_of_le hwl X5.out.size
           have HC1 := hide (containsZ_any (.func (.func 74) #[] #[.pointer (some ⟨w.heap.size, 0, none⟩)]) 74 [.pointer (some ⟨w.heap.size, 0, none⟩)] rfl enters74 (noneB OZ.length) na nc NZ wz hnl (HNX.out.below XZ.out) (fun z _ V x => mayBe1_any oa OZ.length oc w.heap.size z V ((x.cell (p := ⟨w.heap.size, 2, none⟩) hwz).trans d2)))
           go_wp2_with (fail)
           refine HC1.out.mono ?_
           rintro e w6 ⟨rfl, x6⟩
           clear HC1
           have d2' := (x6.cell (p := ⟨w.heap.size, 2, none⟩) hwz).trans d2
           have X6 := hide (bt XZ.out x6 (Nat.le_refl _))
           clear d0 d1 d2 x6
           cases hA : NZ.any (noneB OZ.length) with
           | true =>
             have HNM : Hid (¬ MayZ bs NZ OZ) := fun h => by have := (HT.out.2 h).1; rw [hA] at this; cases this
             clear HT hA
             go_wp2
             go_ret
             exact ⟨⟨false, rfl, ⟨fun h => (by cases h), fun h => absurd h HNM.out⟩⟩, X6.out⟩
           | false =>
             have HC2 := hide (containsZ_any (.func (.func 75) #[] #[]) 75 [] rfl enters75 nlB oa oc OZ w6 hol (HOU.out.below X6.out) (fun z _ V _ => mayBe2_any z V))
             have HA := hide hA
             clear hA
             go_wp2_with (fail)
             refine HC2.out.mono ?_
             rintro e w7 ⟨rfl, x7⟩
             have X7 := hide (bt X6.out x7 (Nat.le_refl _))
             clear HC2 x7 d2'
             cases hO : OZ.any nlB with
             | true =>
               have HNM : Hid (¬ MayZ bs NZ OZ) := fun h => by have := (HT.out.2 h).2; rw [hO] at this; cases this
               clear HT hO
               go_wp2
               go_ret
               exact ⟨⟨false, rfl, ⟨fun h => (by cases h), fun h => absurd h HNM.out⟩⟩, X7.out⟩
             | false =>
               have HM : Hid (MayZ bs NZ OZ) := HT.out.1 ⟨HA.out, hO⟩
               clear HT hO
               go_wp2
               go_ret
               exact ⟨⟨true, rfl, ⟨fun _ => HM.out, fun _ => rfl⟩⟩, X7.out⟩
 · have h1' : ¬ (bs.length : Int) = 256 := by omega
   have HN : Hid (¬ MayZ bs NZ OZ) := fun h => h1 h.1
   clear h1
   go_enter Tryz.func33, Tryz.ntmps33
   go_wp2
   go_ret
   exact ⟨⟨false, rfl, ⟨fun h => (by cases h), fun h => absurd h HN.out⟩⟩, X1.out⟩
end Go.Proofs.YtdgoilkgplnhfaaGreat
