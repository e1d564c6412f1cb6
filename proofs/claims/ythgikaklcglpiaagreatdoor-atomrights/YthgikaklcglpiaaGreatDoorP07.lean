/-
  IsName by its contract. Condition: the text is no longer than a process can hold.
-/
import Derived.Lib.OthersKept
import Derived.Laws.RangeAny
import Derived.Test.YthgikaklcglpiaaGreatDoorP04
import Derived.Laws.Rows
import Derived.Deep.RegionHeld3
import Derived.Test.YthgikaklcglpiaaGreatDoorP05
import Derived.WalkLawsBesides
import Derived.Deep.AppendLies
import Derived.Deep.RegionLaw
import Derived.Laws.Runes
import Derived.WalkMore
import Derived.Test.YthgikaklcglpiaaGreatDoorP06
namespace Go.Proofs.YthgikaklcglpiaaGreatDoor.L9
open Go.RowKit Go.Lib

abbrev By := List UInt8
def bI (b : UInt8) : Int := (b.toNat : Int)
/-- Do all bytes go on a run of a kind? -/
def allGo (k : Int) (s : By) : Bool := s.all fun b => goB k (bI b)
def fsB : By → Bool
  | [] => false
  | b :: _ => smB (bI b)
/-- Is it a name? -/
def nmB (s : By) : Bool := decide (s.length ≤ 32) && !wdB s && fsB s && allGo 2 s
theorem bs_size (s : By) : (⟨s.toArray⟩ : ByteArray).size = s.length := by simp [ByteArray.size]
theorem bs_get (s : By) (i : Nat) (h : i < (⟨s.toArray⟩ : ByteArray).size) : (⟨s.toArray⟩ : ByteArray)[i]'h = s[i]'(by rw [← bs_size]; exact h) := by
  show s.toArray[i]'_ = _
  simp
theorem rune_high (s : By) {i : Nat} (h : i < s.length) (hb : ¬ s[i].toNat < 128) : 128 ≤ (Utf8.decode ⟨s.toArray⟩ i).1 ∧ 1 ≤ (Utf8.decode ⟨s.toArray⟩ i).2 := by
  have h' : i < (⟨s.toArray⟩ : ByteArray).size := by rw [bs_size]; exact h
  exact decode_high _ i h' (by rw [bs_get]; omega)
theorem go_high {k r : Int} (h : 128 ≤ r) : goB k r = false := by
  unfold goB smB dgB grB
  have e1 : decide (r ≤ 122) = false := by simp; omega
  have e2 : decide (r ≤ 57) = false := by simp; omega
  have e3 : decide (r ≤ 90) = false := by simp; omega
  have e4 : decide (r = 95) = false := by simp; omega
  have e5 : decide (r = 45) = false := by simp; omega
  have e6 : decide (r = 46) = false := by simp; omega
  have e7 : decide (r = 47) = false := by simp; omega
  rw [e1, e2, e3, e4, e5, e6, e7]
  simp
theorem sm_go {r : Int} (h : smB r = true) : goB 2 r = true := by unfold goB; rw [if_pos rfl, h]; simp
theorem allGo_false {k : Int} {s : By} {i : Nat} (h : i < s.length) (hb : goB k (bI s[i]) = false) : allGo k s = false := by
  unfold allGo
  rw [List.all_eq_false]
  exact ⟨s[i], List.getElem_mem h, by simp [hb]⟩
theorem allGo_true {k : Int} {s : By} (h : ∀ i (hi : i < s.length), goB k (bI s[i]) = true) : allGo k s = true := by
  unfold allGo
  rw [List.all_eq_true]
  intro b hb
  obtain ⟨i, hi, rfl⟩ := List.getElem_of_mem hb
  exact h i hi
set_option maxRecDepth 100000 in
set_option maxHeartbeats 4000000 in
theorem isName_any (s : By) (w : World) (hs : s.length ≤ 140737488351232) : Calls Tryz.prog 295 #[.string ⟨s.toArray⟩] w fun e w' => e = .returned (.bool (nmB s)) ∧ Below w.heap.size w w' := by
  have HW := hide (fun W => isWord_any s W)
  have hsz := bs_size s
  by_cases hl : 32 < s.length
  · have hl' : (32 : Int) < (s.length : Int) := by omega
    have key : Hid (nmB s = false) := by
      unfold Hid nmB
      have : decide (s.length ≤ 32) = false := by simp; omega
      rw [this]; simp
    go_enter Tryz.func295, Tryz.ntmps295
    go_wp2
    go_ret
    exact ⟨by rw [key.out]; rfl, Below.refl _ _⟩
  · have hl' : ¬ (32 : Int) < (s.length : Int) := by omega
    cases hb : wdB s with
    | true =>
      have key : Hid (nmB s = false) := by unfold Hid nmB; rw [hb]; simp
      rw [hb] at HW
      clear hb
      go_enter Tryz.func295, Tryz.ntmps295
      go_wp2_with (go_at_call 329; refine (HW.out _).mono ?_; rintro e wz ⟨rfl, hwz⟩; have hwz := hwz.symm; subst hwz)
      go_ret
      exact ⟨by rw [key.out]; rfl, Below.refl _ _⟩
    | false =>
      have key : Hid (nmB s = (fsB s && allGo 2 s)) := by
        unfold Hid nmB
        have : decide (s.length ≤ 32) = true := by simp; omega
        rw [this, hb]; simp
      rw [hb] at HW
      clear hb
      go_enter Tryz.func295, Tryz.ntmps295
      go_wp2_with (go_at_call 329; refine (HW.out _).mono ?_; rintro e wz ⟨rfl, hwz⟩; have hwz := hwz.symm; subst hwz)
      go_loopw [] (fun wr => ∃ pos : Nat, wr.heap[w.heap.size]? = some (.stringIter ⟨s.toArray⟩ pos) ∧ Below w.heap.size w wr ∧ pos ≤ s.length ∧ Hid (∀ i (hi : i < s.length), i < pos → goB 2 (bI s[i]) = true) ∧ Hid (0 < pos → fsB s = true)) (fun wr => s.length - wr.iterPos w.heap.size)
      case atStart =>
        refine ⟨0, ?_, (Below.refl _ w).alloc (Nat.le_refl _) _, by omega, fun i _ h => by omega, fun h => by omega⟩
        have := World.iter_heap w ⟨s.toArray⟩ 0
        simpa using this
      case round =>
        obtain ⟨pos, hit, hbw, hp1, HG, HF⟩ := hrel
        by_cases hp : pos < s.length
        · have hp' : pos < (⟨s.toArray⟩ : ByteArray).size := by rw [hsz]; exact hp
          have hit2 := fun q => Lib.iterAt_heap wr w.heap.size ⟨s.toArray⟩ pos q hit
          have hbw2 := fun q => Lib.below_iterAt hbw (k := w.heap.size) (Nat.le_refl _) ⟨s.toArray⟩ q
          by_cases ha : s[pos].toNat < 128
          · have hnx : ∀ ty, (Instr.next (.pointer (some ⟨w.heap.size, 0, none⟩)) true ty).run Tryz.prog wr = _ := fun ty => Lib.run_next_ascii_at wr w.heap.size ⟨s.toArray⟩ pos ty hit hp' (by rw [bs_get]; exact ha)
            rw [bs_get] at hnx
            have HB : Hid (bI s[pos] = (s[pos].toNat : Int)) := rfl
            have H1 := hide (fun W => isSmall_any (s[pos].toNat : Int) W)
            have H2 := hide (fun W => goesOn_any 2 (s[pos].toNat : Int) W)
            have HFS : Hid (pos = 0 → fsB s = smB (s[pos].toNat : Int)) := fun h => by
              subst h
              cases s with
              | nil => simp at hp
              | cons b t => rfl
            have HX2 := hide (hbw2 (pos + 1))
            have HI2 := hide (hit2 (pos + 1))
            have HGT : Hid (goB 2 (s[pos].toNat : Int) = true → ∀ i (hi : i < s.length), i < pos + 1 → goB 2 (bI s[i]) = true) := fun h i hi h2 => by
              by_cases h3 : i < pos
              · exact HG.out i hi h3
              · obtain rfl : i = pos := by omega
                exact h
            have HGF : Hid (goB 2 (s[pos].toNat : Int) = false → allGo 2 s = false) := fun h => allGo_false hp h
            have HSF : Hid (pos = 0 → smB (s[pos].toNat : Int) = false → fsB s = false) := fun h h2 => by rw [HFS.out h, h2]
            have HSG : Hid (smB (s[pos].toNat : Int) = true → goB 2 (s[pos].toNat : Int) = true) := fun h => sm_go h
            generalize s[pos].toNat = r at *
            obtain ⟨b1, e1⟩ : ∃ b, smB (r : Int) = b := ⟨_, rfl⟩
            obtain ⟨b2, e2⟩ : ∃ b, goB 2 (r : Int) = b := ⟨_, rfl⟩
            rw [e1] at H1 HFS HSF HSG
            rw [e2] at H2 HGT HGF HSG
            clear e1 e2 hit2 hbw2 HB HG
            cases b2 with
            | false =>
              have HR : Hid ((fsB s && allGo 2 s) = false) := by unfold Hid; rw [HGF.out rfl, Bool.and_false]
              by_cases h0 : pos = 0
              · subst h0
                cases b1
                all_goals
                  go_wp2_with (first | (go_at_call 330; refine (H1.out _).mono ?_; rintro e wz ⟨rfl, hwz⟩; have hwz := hwz.symm; subst hwz) | (go_at_call 331; refine (H2.out _).mono ?_; rintro e wz ⟨rfl, hwz⟩; have hwz := hwz.symm; subst hwz))
                  go_ret
                  exact ⟨by rw [key.out, HR.out]; rfl, HX2.out⟩
              · have h0' : ¬ (pos : Int) = 0 := by omega
                go_wp2_with (go_at_call 331; refine (H2.out _).mono ?_; rintro e wz ⟨rfl, hwz⟩; have hwz := hwz.symm; subst hwz)
                go_ret
                exact ⟨by rw [key.out, HR.out]; rfl, HX2.out⟩
            | true =>
              have HGN := hide (HGT.out rfl)
              clear HGT HGF HSG
              by_cases h0 : pos = 0
              · subst h0
                have HFN := hide (HFS.out rfl)
                cases b1 with
                | false =>
                  have HR : Hid ((fsB s && allGo 2 s) = false) := by unfold Hid; rw [HSF.out rfl rfl, Bool.false_and]
                  go_wp2_with (go_at_call 330; refine (H1.out _).mono ?_; rintro e wz ⟨rfl, hwz⟩; have hwz := hwz.symm; subst hwz)
                  go_ret
                  exact ⟨by rw [key.out, HR.out]; rfl, HX2.out⟩
                | true =>
                  go_wp2_with (first | (go_at_call 330; refine (H1.out _).mono ?_; rintro e wz ⟨rfl, hwz⟩; have hwz := hwz.symm; subst hwz) | (go_at_call 331; refine (H2.out _).mono ?_; rintro e wz ⟨rfl, hwz⟩; have hwz := hwz.symm; subst hwz))
                  go_roundw
                  case rel => exact ⟨1, HI2.out, HX2.out, hp, HGN.out, fun _ => HFN.out⟩
                  case measure =>
                    simp only [World.iterPos, HI2.out, hit]
                    omega
              · have h0' : ¬ (pos : Int) = 0 := by omega
                go_wp2_with (go_at_call 331; refine (H2.out _).mono ?_; rintro e wz ⟨rfl, hwz⟩; have hwz := hwz.symm; subst hwz)
                go_roundw
                case rel => exact ⟨pos + 1, HI2.out, HX2.out, hp, HGN.out, fun _ => HF.out (by omega)⟩
                case measure =>
                  simp only [World.iterPos, HI2.out, hit]
                  omega
          · have hnx : ∀ ty, (Instr.next (.pointer (some ⟨w.heap.size, 0, none⟩)) true ty).run Tryz.prog wr = _ := fun ty => Lib.run_next_any_at wr w.heap.size ⟨s.toArray⟩ pos ty hit hp'
            obtain ⟨hd1, hd2⟩ := rune_high s hp ha
            have HR : Hid ((fsB s && allGo 2 s) = false) := by unfold Hid; rw [allGo_false hp (go_high (by unfold bI; omega)), Bool.and_false]
            have HX2 := hide (hbw2 (pos + (Utf8.decode ⟨s.toArray⟩ pos).2))
            generalize (Utf8.decode ⟨s.toArray⟩ pos).2 = wd at *
            generalize (Utf8.decode ⟨s.toArray⟩ pos).1 = r at *
            have H1 := hide (fun W => isSmall_any (r : Int) W)
            have H2 := hide (fun W => goesOn_any 2 (r : Int) W)
            rw [go_high (by omega)] at H2
            have hsm : smB (r : Int) = false := by unfold smB; have : decide ((r : Int) ≤ 122) = false := (by simp; omega); rw [this, Bool.and_false]
            rw [hsm] at H1
            clear hit2 hbw2 hsm
            by_cases h0 : pos = 0
            · subst h0
              go_wp2_with (go_at_call 330; refine (H1.out _).mono ?_; rintro e wz ⟨rfl, hwz⟩; have hwz := hwz.symm; subst hwz)
              go_ret
              exact ⟨by rw [key.out, HR.out]; rfl, by simpa using HX2.out⟩
            · have h0' : ¬ (pos : Int) = 0 := by omega
              go_wp2_with (go_at_call 331; refine (H2.out _).mono ?_; rintro e wz ⟨rfl, hwz⟩; have hwz := hwz.symm; subst hwz)
              go_ret
              exact ⟨by rw [key.out, HR.out]; rfl, HX2.out⟩
        · have hnx : ∀ ty, (Instr.next (.pointer (some ⟨w.heap.size, 0, none⟩)) true ty).run Tryz.prog wr = _ := fun ty => Lib.run_next_end_at wr w.heap.size ⟨s.toArray⟩ pos ty hit (by rw [hsz]; exact hp)
          have HX2 := hide hbw
          cases s with
          | nil =>
            have HR : Hid ((fsB [] && allGo 2 []) = false) := rfl
            go_wp2
            go_ret
            exact ⟨by rw [key.out, HR.out]; rfl, HX2.out⟩
          | cons b t =>
            have HR : Hid ((fsB (b :: t) && allGo 2 (b :: t)) = true) := by
              unfold Hid
              rw [HF.out (by simp at hp; omega), allGo_true (fun i hi => HG.out i hi (by omega))]
              rfl
            have hne : ((b :: t) == ([] : By)) = false := rfl
            go_wp2
            go_ret
            exact ⟨by rw [key.out, HR.out]; rfl, HX2.out⟩
end Go.Proofs.YthgikaklcglpiaaGreatDoor.L9
/-
  A region that draws its order, while its last operation has not come up: what is read may be read first. Of no program: no condition.
-/
namespace Go.Proofs.YthgikaklcglpiaaGreatDoor.L9
open Go.RowKit Go.Lib

section
variable {P : Program} {ops : Array Oper} {Q : Exit → Act → World → Prop} {md : Region.Mode} {S : World → Prop} {z : Nat}
/-- Whatever comes up, S holds behind it as long as operation z has not come up. -/
def UntH (P : Program) (md : Region.Mode) (ops : Array Oper) (Q : Exit → Act → World → Prop) (S : World → Prop) (z : Nat) : Nat → Array Bool → Act → World → Prop
  | 0, done, a, w => Region.ready md ops done = [] ∧ Q .normal a w
  | n + 1, done, a, w => (Region.ready md ops done = [] → Q .normal a w) ∧ ∀ i ∈ Region.ready md ops done, wpOp P ops Q i (fun a' w' => ((done.setIfInBounds i true).getD z true = false → S w') ∧ UntH P md ops Q S z n (done.setIfInBounds i true) a' w') a w
theorem UntH.any : ∀ (n : Nat) (done : Array Bool) (a : Act) (w : World), UntH P md ops Q S z n done a w → wpAny P md ops Q n done a w
  | 0, _, _, _, h => h
  | n + 1, _, _, _, h => ⟨h.1, fun i hi => wpOp_mono (fun a' w' k => UntH.any n _ a' w' k.2) (h.2 i hi)⟩
/-- The operations that wait for operation i, or for one that does. -/
def upOf (md : Region.Mode) (ops : Array Oper) (i : Nat) : List Nat :=
  (List.range ops.size).foldl (fun C c => match ops[c]? with
    | some o => if o.after.any (fun e => Region.binds md e && (e.on == i || C.contains e.on)) then c :: C else C
    | none => C) []
def upOk (md : Region.Mode) (ops : Array Oper) (done : Array Bool) (i z : Nat) (C : List Nat) : Bool :=
  C.contains z && !C.contains i && C.all fun c => !done.getD c true && match ops[c]? with
    | some o => o.after.any fun e => Region.binds md e && (e.on == i || C.contains e.on)
    | none => false
theorem UntH.first {i : Nat} {oi : Oper} {v : Value} {C : List Nat} (hi : ops[i]? = some oi) (hzC : z ∈ C) (hiC : i ∉ C) (hC : ∀ c ∈ C, ∃ oc, ops[c]? = some oc ∧ ∃ e ∈ oc.after, Region.binds md e = true ∧ (e.on = i ∨ e.on ∈ C)) (hsel : ∀ (j : Nat) (o : Oper) cs b, ops[j]? = some o → o.op ≠ .select cs b) (hQ : ∀ c a w, Q (.panic c) (a.put oi.dst v) w → Q (.panic c) a w) :
    ∀ (n : Nat) (done : Array Bool) (a : Act) (w : World), (∀ c ∈ C, done.getD c true = false) → (∀ j oj, ops[j]? = some oj → j ≠ i → done.getD j true = false → (∀ e ∈ oj.after, Region.binds md e = true → e.on ≠ i) → oi.apart ops oj = true) →
      i ∈ Region.ready md ops done → YieldsIf P ops S oi v a → S w → UntH P md ops Q S z n (done.setIfInBounds i true) (a.put oi.dst v) w → UntH P md ops Q S z (n + 1) done a w := by
  intro n
  induction n with
  | zero =>
    intro done a w _ _ hr hy hS H
    refine ⟨fun h => (by rw [h] at hr; cases hr), fun j hj => ?_⟩
    by_cases hji : j = i
    · subst hji; exact hy.wpOp hi hS ⟨fun _ => hS, H⟩
    · have h1 := ready_mono hj hji
      rw [H.1] at h1
      cases h1
  | succ n ih =>
    intro done a w hzu hfree hr hy hS H
    refine ⟨fun h => (by rw [h] at hr; cases hr), fun j hj => ?_⟩
    by_cases hji : j = i
    · subst hji; exact hy.wpOp hi hS ⟨fun _ => hS, H⟩
    · have h1 := H.2 j (ready_mono hj hji)
      obtain ⟨hjun, oj, hoj, hall⟩ := mem_ready.1 hj
      have hun : ¬ done.getD i false = true := fun h => by
        have h0 := (mem_ready.1 hr).1
        rcases Nat.lt_or_ge i done.size with h' | h'
        · simp [h'] at h0 h; rw [h0] at h; cases h
        · simp [Array.getElem?_eq_none h'] at h
      have hno : ∀ e ∈ oj.after, Region.binds md e = true → e.on ≠ i := fun e he hb heq => hun (by rw [← heq]; exact hall e he hb)
      have hjC : j ∉ C := fun hjC => by
        obtain ⟨oc, h1, x, x1, x2, x3⟩ := hC j hjC
        rw [hoj] at h1
        cases h1
        rcases x3 with x3 | x3
        · exact hno x x1 x2 x3
        · have h2 := hall x x1 x2
          have h3 := hzu _ x3
          rcases Nat.lt_or_ge x.on done.size with h' | h'
          · simp [h'] at h2 h3; rw [h2] at h3; cases h3
          · simp [Array.getElem?_eq_none h'] at h2
      have hzu2 : ∀ c ∈ C, (done.setIfInBounds j true).getD c true = false := fun c hc => by
        have hne : j ≠ c := fun e => hjC (by rw [e]; exact hc)
        rw [getD_set_ne true hne]
        exact hzu c hc
      have hzu3 : ((done.setIfInBounds i true).setIfInBounds j true).getD z true = false := by
        have hn1 : j ≠ z := fun e => hjC (by rw [e]; exact hzC)
        have hn2 : i ≠ z := fun e => hiC (by rw [e]; exact hzC)
        rw [getD_set_ne true hn1, getD_set_ne true hn2]
        exact hzu z hzC
      have h2 := wpOp_putIf hoj (hfree j oj hoj hji hjun hno) (fun cs b => hsel i oi cs b hi) (fun cs b => hsel j oj cs b hoj) hQ hy h1
      have hfree' : ∀ k ok, ops[k]? = some ok → k ≠ i → (done.setIfInBounds j true).getD k true = false → (∀ e ∈ ok.after, Region.binds md e = true → e.on ≠ i) → oi.apart ops ok = true := fun k ok hk hki hu hn => by
        refine hfree k ok hk hki ?_ hn
        by_cases hjk : j = k
        · subst hjk; exact hjun
        · rw [getD_set_ne true hjk] at hu; exact hu
      refine wpOp_mono (fun a' w' h3 => ?_) h2
      have hS' := h3.2.1 hzu3
      refine ⟨fun _ => hS', ih (done.setIfInBounds j true) a' w' hzu2 hfree' (ready_mono hr (Ne.symm hji)) h3.1 hS' ?_⟩
      rw [Array.setIfInBounds_comm _ _ hji]
      exact h3.2.2
/-- One that may be read is read first. -/
theorem UntH.take {i n : Nat} {oi : Oper} {done : Array Bool} {a : Act} {w : World} (d : Option Nat) (hi : ops[i]? = some oi) (hd : oi.dst = d) (hz : upOk md ops done i z (upOf md ops i) = true) (hs : Region.noSelect ops = true) (hf : Region.free md ops done i = true) (hr : (Region.ready md ops done).contains i = true)
    (hQ : ∀ v c a w, Q (.panic c) (a.put oi.dst v) w → Q (.panic c) a w) (hw : Region.wanted oi (yielded ops a.tmps) = true) (hS : S w) (h : ∃ v, (∀ w', S w' → (execOp a.eval oi).run P w' = .ok (.value v) w') ∧ UntH P md ops Q S z n (done.setIfInBounds i true) (a.put d v) w) : UntH P md ops Q S z (n + 1) done a w := by
  obtain ⟨v, h1, h2⟩ := h
  rw [← hd] at h2
  revert hz
  generalize upOf md ops i = C
  intro hz
  simp only [upOk, Bool.and_eq_true, List.all_eq_true, Bool.not_eq_true', List.contains_iff_mem] at hz
  obtain ⟨⟨hz1, hz2⟩, hz3⟩ := hz
  refine UntH.first (C := C) hi hz1 ?_ ?_ (Region.noSelect_spec hs) (hQ v) n done a w (fun c hc => (hz3 c hc).1) (Region.free_spec hi hf) (by simpa using hr) (.inl ⟨hw, h1⟩) hS h2
  · intro h0
    rw [List.contains_iff_mem.2 h0] at hz2
    cases hz2
  · intro c hc
    have h3 := (hz3 c hc).2
    cases ho : ops[c]? with
    | none => rw [ho] at h3; cases h3
    | some o =>
      rw [ho] at h3
      obtain ⟨k, hk, e⟩ := Array.any_eq_true.1 h3
      simp only [Bool.and_eq_true, Bool.or_eq_true, beq_iff_eq, List.contains_iff_mem] at e
      exact ⟨o, rfl, o.after[k], Array.getElem_mem hk, e.1, e.2⟩
/-- Only one may come up. -/
theorem UntH.one {i n : Nat} {done : Array Bool} {a : Act} {w : World} (hr : Region.ready md ops done = [i]) (h : wpOp P ops Q i (fun a' w' => ((done.setIfInBounds i true).getD z true = false → S w') ∧ UntH P md ops Q S z n (done.setIfInBounds i true) a' w') a w) : UntH P md ops Q S z (n + 1) done a w :=
  ⟨fun h0 => (by rw [hr] at h0; cases h0), fun j hj => by
    rw [hr] at hj
    obtain rfl := List.mem_singleton.1 hj
    exact h⟩
theorem UntH.step {i n : Nat} {o : Oper} {done : Array Bool} {a : Act} {w : World} (hr : Region.ready md ops done = [i]) (ho : ops[i]? = some o) (h : ∀ K' : Act → World → Prop, Shut (∀ a w, S w → UntH P md ops Q S z n (done.setIfInBounds i true) a w → K' a w) → if Region.wanted o (yielded ops a.tmps) = true then Oper.wp P o a w K' Q else K' (a.put o.dst undef) w) : UntH P md ops Q S z (n + 1) done a w :=
  UntH.one hr (wpOp_step ho (fun K' hK => h K' (fun a w h1 h2 => hK a w ⟨fun _ => h1, h2⟩)))
theorem UntH.last {n : Nat} {o : Oper} {done : Array Bool} {a : Act} {w : World} (hr : Region.ready md ops done = [z]) (ho : ops[z]? = some o) (hr2 : Region.ready md ops (done.setIfInBounds z true) = []) (hz : (done.setIfInBounds z true).getD z true = true) (h : ∀ K' : Act → World → Prop, Shut (∀ a w, Q .normal a w → K' a w) → if Region.wanted o (yielded ops a.tmps) = true then Oper.wp P o a w K' Q else K' (a.put o.dst undef) w) : UntH P md ops Q S z (n + 1) done a w :=
  UntH.one hr (wpOp_step ho (fun K' hK => h K' (fun a w h1 => hK a w ⟨fun h2 => (by rw [hz] at h2; cases h2), by
    cases n with
    | zero => exact ⟨hr2, h1⟩
    | succ n => exact ⟨fun _ => h1, fun j hj => by rw [hr2] at hj; cases hj⟩⟩)))
theorem wp_unt {id : Nat} {a : Act} {w : World} (z : Nat) (hm : P.follows .mixedOrders = true) (h : UntH P .any ops Q S z ops.size (Array.replicate ops.size false) a w.drew) : (Code.region id ops true).wp P Q a w := wp_region_any hm (UntH.any _ _ _ _ h)
end
end Go.Proofs.YthgikaklcglpiaaGreatDoor.L9
/-
  The reader of policies, pure: tokens to trees, or what is wrong first, and where. Of no program: no condition.
-/

namespace Go.Proofs.YthgikaklcglpiaaGreatDoor.L9
/-- A condition. -/
inductive CT where
  | mk (k : Int) (nm tx : By) (pre sp : List (Int × Int)) (ns : List By) (kids : List CT) (p : Int)
namespace CT
def k : CT → Int | mk k _ _ _ _ _ _ _ => k
def nm : CT → By | mk _ x _ _ _ _ _ _ => x
def tx : CT → By | mk _ _ x _ _ _ _ _ => x
def pre : CT → List (Int × Int) | mk _ _ _ x _ _ _ _ => x
def sp : CT → List (Int × Int) | mk _ _ _ _ x _ _ _ => x
def ns : CT → List By | mk _ _ _ _ _ x _ _ => x
def kids : CT → List CT | mk _ _ _ _ _ _ x _ => x
def p : CT → Int | mk _ _ _ _ _ _ _ x => x
end CT
def wTrue : By := [116, 114, 117, 101]
def wFalse : By := [102, 97, 108, 115, 101]
def wAddr : By := [97, 100, 100, 114]
def wPort : By := [112, 111, 114, 116]
def wMethod : By := [109, 101, 116, 104, 111, 100]
def wPath : By := [112, 97, 116, 104]
def wHeader : By := [104, 101, 97, 100, 101, 114]
def wHas : By := [104, 97, 115]
def wIn : By := [105, 110]
def wLet : By := [108, 101, 116]
def wAllow : By := [97, 108, 108, 111, 119]
def wDeny : By := [100, 101, 110, 121]
/-- The word of a test. -/
def tWord (k : Nat) : By := match k with
  | 1 => wTrue | 2 => wFalse | 7 => wAddr | 8 => wPort | 9 => wMethod | 10 => wPath | 11 => wHeader | 12 => wHas | _ => []
def iWord (k : Nat) : By := match k with
  | 1 => wLet | 2 => wAllow | 3 => wDeny | _ => []
/-- An item: its kind, its name, its condition, its place. -/
structure IT where
  k : Int
  nm : By
  c : CT
  p : Int
end Go.Proofs.YthgikaklcglpiaaGreatDoor.L9
/-
  Small words: a panic with a fault; an iterator moves on; what lies below stays. No condition.
-/
namespace Go.Proofs.YthgikaklcglpiaaGreatDoor.L9
open Go.RowKit Go.Lib

def pan (e p : Int) : Ending := .panicked [{ v := .iface 168 (.agg #[.int .i64 e, .int .i64 p]), recovered := false }]
theorem kept_iter (w : World) (k : Nat) (s : ByteArray) (q : Nat) : Kept (fun j => j = k) w (w.iterAt k s q) := ⟨rfl, rfl, rfl, by rw [Lib.iterAt_size]; exact Nat.le_refl _, fun j _ h => Lib.iterAt_other w k j s q h⟩
theorem Kept.low {w w1 w9 : World} {F : Nat → Prop} (h : Below w.heap.size w w1) (hk : Kept F w1 w9) (hF : ∀ k, F k → w.heap.size ≤ k) : Below w.heap.size w w9 :=
  ⟨hk.os.trans h.os, hk.tape.trans h.tape, hk.output.trans h.output, Nat.le_trans h.size hk.size, fun k hlt => (hk.block k (Nat.lt_of_lt_of_le hlt h.size) (fun hf => by have := hF k hf; omega)).trans (h.block k hlt)⟩
theorem block_ne {w : World} {a b : Nat} {cs cs' : Array Value} {t t' : TypeId} {f f' : Nat × Nat} (h1 : w.heap[a]? = some (.cells cs t f)) (h2 : w.heap[b]? = some (.cells cs' t' f')) (h : t ≠ t') : a ≠ b := fun e => by
  subst e
  rw [h1] at h2
  simp at h2
  exact h h2.2.1
end Go.Proofs.YthgikaklcglpiaaGreatDoor.L9
