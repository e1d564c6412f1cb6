/-
  What a policy is written as. Condition: all its items are such as are written.
-/
import Derived.Test.YtlmhofjiobmodaaGreatDoorQ24
import Derived.Test.YtlmhofjiobmodaaGreatDoorQ11
namespace Go.Proofs.YtlmhofjiobmodaaGreatDoor
open Go.RowKit Go.Lib

theorem ItsAt.get {w : World} {base : Nat} : ∀ {l : List IT} {cs : List Value} {ks : List Nat} (_ : ItsAt w base l cs ks) (i : Nat) (hi : i < l.length), ∃ vs bs, CtAt w base l[i].c vs bs ∧ (∀ r, r < 11 → cs[i * 11 + r]? = (itV l[i] vs)[r]?)
  | [], cs, ks, h, i, hi => by simp at hi
  | x :: l, cs, ks, h, 0, hi => by
    obtain ⟨vs, bs, cs', ks', h1, h2, h3, h4⟩ := h
    refine ⟨vs, bs, h3, fun r hr => ?_⟩
    have hl : (itV x vs).length = 11 := by simp [itV, h3.len]
    rw [h1, List.getElem?_append_left (by omega), Nat.zero_mul, Nat.zero_add]
    rfl
  | x :: l, cs, ks, h, i + 1, hi => by
    obtain ⟨vs, bs, cs', ks', h1, h2, h3, h4⟩ := h
    obtain ⟨vs2, bs2, q1, q2⟩ := ItsAt.get h4 i (by simpa using hi)
    have hl : (itV x vs).length = 11 := by simp [itV, h3.len]
    refine ⟨vs2, bs2, q1, fun r hr => ?_⟩
    rw [h1, List.getElem?_append_right (by omega), hl, show (i + 1) * 11 + r - 11 = i * 11 + r by omega]
    exact q2 r hr
def polW : List IT → WS → Option WS
  | [], s => some s
  | x :: l, s => (itemW x s).bind fun a => polW l a
theorem lies120 : liesAt Tryz.prog Tryz.prog.depth 120 (3 / Tryz.prog.cellsOf 120) 0 87 1 = true := by kernel_rfl
set_option maxRecDepth 100000 in
theorem WrA.new (w : World) : WrA (w.alloc (.cells #[.pointer none, .slice none 0 0, .bool true] 120)) w.heap.size w.heap.size [] true := by
  have hsz : (#[.pointer none, .slice none 0 0, .bool true] : Array Value).size = 3 := rfl
  refine ⟨⟨#[.pointer none, .slice none 0 0, .bool true], ⟨heap_alloc_new w _, Nat.le_refl _, by rw [hsz]; decide, by rw [hsz]; exact lies120, by decide, .inl rfl, .slice none 0 0, rfl, World.ownsRow_nil _ _ _ _⟩, hsz, rfl, fun _ => rfl⟩, by simp, by simp⟩
set_option maxRecDepth 100000 in
set_option maxHeartbeats 8000000 in
theorem written_ok {w : World} {b0 : Nat} {L : List IT} {v : Value} {cs : List Value} {bs : List Nat} {y : WS} (hl : L.length ≤ 100) (hs : ∀ x ∈ L, Smp 16 x.c) (h : PolA w b0 L v cs bs) (hx : polW L ([], true) = some y) :
    Calls Tryz.prog 42 #[.agg #[v]] w fun e w' => e = .returned (.string ⟨y.1.toArray⟩) ∧ Below w.heap.size w w' := by
  obtain ⟨ao, cp, hv, hav⟩ := own_shape h.row
  subst hv
  have hll : (L.length : Int) ≤ 100 := by omega
  have HLL := hide hl
  have XW := hide (show Below w.heap.size w (w.alloc (.cells #[.slice ao L.length cp] 36)) from al (Below.refl _ _) _)
  have HB := hide (heap_alloc_new w (.cells #[.slice ao L.length cp] 36))
  have HPO := hide (h.below XW.out)
  have HM := hide must_ok
  have HAV := hide hav
  have HSS := hide hs
  have HXX := hide hx
  clear hl hs h hx hav
  obtain ⟨P, hP⟩ : ∃ P, P = w.heap.size := ⟨_, rfl⟩
  go_enter Tryz.func42, Tryz.ntmps42
  go_upto_region 1 with fail
  rw [← hP] at HB ⊢
  have HPP := hide hP
  clear hP
  generalize w.alloc (.cells #[.slice ao L.length cp] 36) = W at *
  have q0 : W.cell? ⟨P, 0, none⟩ = some (.slice ao L.length cp) := by rw [cell_of_row _ _ _ _ _ _ HB.out]; rfl
  go_upto_region 2 with (go_at_call 65; refine (HM.out _).mono ?_; rintro e w2 ⟨rfl, hw⟩; have hw2 := hw.symm; clear hw; subst hw2)
  clear q0 hll
  have RW := hide (WrA.new W)
  have XQ : Hid (Below W.heap.size W (W.alloc (.cells #[.pointer none, .slice none 0 0, .bool true] 120))) := al (Below.refl _ _) _
  have HB2 := hide ((XQ.out.block P (lt_of_block HB.out)).trans HB.out)
  have HPO2 := hide (HPO.out.below XQ.out)
  have XX := hide (bt XW.out XQ.out (Nat.le_refl _))
  go_upto_region 3 with fail
  obtain ⟨Q, hQ⟩ : ∃ Q, Q = W.heap.size := ⟨_, rfl⟩
  rw [← hQ] at RW ⊢
  have HQ : Hid (w.heap.size ≤ Q) := by have := XW.out.size; unfold Hid; omega
  clear hQ HB HPO XW XQ
  generalize W.alloc (.cells #[.pointer none, .slice none 0 0, .bool true] 120) = W2 at *
  have q0 : W2.cell? ⟨P, 0, none⟩ = some (.slice ao L.length cp) := by rw [cell_of_row _ _ _ _ _ _ HB2.out]; rfl
  go_wp2
  clear q0
  go_loopg [5, 15] (L.length + 1) (fun gg x5 x15 wr => ∃ (k : Nat) (z : WS), x15 = .int .i64 (k : Nat) ∧ k ≤ L.length ∧ Hid (polW (L.drop k) z = some y) ∧ Hid (WrA wr Q Q z.1 z.2) ∧ Hid (KpO 5 Q Q W2 wr) ∧ L.length - k < gg)
  case atStart => exact ⟨0, ([], true), rfl, by omega, HXX, RW, hide (KpO.refl _ _), by omega⟩
  case round =>
    obtain ⟨k, z, rfl, hk, HP, RR, XR, hg⟩ := hrel
    have HG := hide hg
    clear hg HXX
    by_cases hlt : k < L.length
    · have hlt' : (k : Int) < (L.length : Int) := by omega
      obtain ⟨it, hdd⟩ : ∃ it, it = L[k] := ⟨_, rfl⟩
      have HME : Hid (it ∈ L) := by
        unfold Hid
        rw [hdd]
        exact List.getElem_mem hlt
      have HDR := HP.out
      rw [List.drop_eq_getElem_cons hlt, ← hdd] at HDR
      obtain ⟨z1, hz1, hx1⟩ := Option.bind_eq_some_iff.1 HDR
      have HX1 := hide hx1
      have HRR := hide (XR.out.ownS HPO2.out.row (by decide) RW.out)
      obtain ⟨us, bs2, hcu, hcell⟩ := HPO2.out.its.get k hlt
      rw [← hdd] at hcu hcell
      have HCU := hide (hcu.kpo RW.out XR.out)
      obtain ⟨d3, e3, d4, e4, d5, e5, d6, e6, rfl⟩ := hcu.eight
      have HZ1 := hide hz1
      obtain ⟨g, rfl⟩ : ∃ g, ao = some ⟨g, 0, none⟩ := HAV.out (by omega)
      have HK := hide hlt
      have hcl : ∀ r, r < 11 → wr.cell? ⟨g, k * 11 + r, none⟩ = [.int .i64 it.k, .string ⟨it.nm.toArray⟩, .int .i64 it.c.k, .string ⟨it.c.nm.toArray⟩, .string ⟨it.c.tx.toArray⟩, .slice d3 it.c.pre.length e3, .slice d4 it.c.sp.length e4, .slice d5 it.c.ns.length e5, .slice d6 it.c.kids.length e6, .int .i64 it.c.p, .int .i64 it.p][r]? := fun r hr => by
        rw [World.ownsRow.cellAt HRR.out (k * 11 + r) (by omega), hcell r hr]
        rfl
      have q0 := hcl 0 (by omega)
      have q1 := hcl 1 (by omega)
      have q2 := hcl 2 (by omega)
      have q3 := hcl 3 (by omega)
      have q4 := hcl 4 (by omega)
      have q5 := hcl 5 (by omega)
      have q6 := hcl 6 (by omega)
      have q7 := hcl 7 (by omega)
      have q8 := hcl 8 (by omega)
      have q9 := hcl 9 (by omega)
      have q10 := hcl 10 (by omega)
      simp only [List.getElem?_cons_zero, List.getElem?_cons_succ, Nat.add_zero] at q0 q1 q2 q3 q4 q5 q6 q7 q8 q9 q10
      clear hcl hcell HRR hcu HDR hx1 hz1 HP hdd hlt
      have HSB := hide (heap_alloc_new wr (.cells #[.int .i64 it.k, .string ⟨it.nm.toArray⟩, .int .i64 it.c.k, .string ⟨it.c.nm.toArray⟩, .string ⟨it.c.tx.toArray⟩, .slice d3 it.c.pre.length e3, .slice d4 it.c.sp.length e4, .slice d5 it.c.ns.length e5, .slice d6 it.c.kids.length e6, .int .i64 it.c.p, .int .i64 it.p] 62))
      have XK : Hid (Below wr.heap.size wr (wr.alloc (.cells #[.int .i64 it.k, .string ⟨it.nm.toArray⟩, .int .i64 it.c.k, .string ⟨it.c.nm.toArray⟩, .string ⟨it.c.tx.toArray⟩, .slice d3 it.c.pre.length e3, .slice d4 it.c.sp.length e4, .slice d5 it.c.ns.length e5, .slice d6 it.c.kids.length e6, .int .i64 it.c.p, .int .i64 it.p] 62))) := al (Below.refl _ _) _
      have RK := hide (RR.out.below XK.out)
      have XX2 := hide (XR.out.trans (KpO.of_below XK.out))
      have HIT := hide (witem_ok (HSS.out it HME.out) RK.out (HCU.out.below XK.out) HZ1.out)
      unfold itV at HIT
      go_upto_region 6 with fail
      clear q0 q1 q2 q3 q4 q5 q6 q7 q8 q9 q10 HCU RR XR XK
      obtain ⟨B, hB⟩ : ∃ B, B = wr.heap.size := ⟨_, rfl⟩
      rw [← hB] at HSB ⊢
      clear hB
      generalize wr.alloc (.cells #[.int .i64 it.k, .string ⟨it.nm.toArray⟩, .int .i64 it.c.k, .string ⟨it.c.nm.toArray⟩, .string ⟨it.c.tx.toArray⟩, .slice d3 it.c.pre.length e3, .slice d4 it.c.sp.length e4, .slice d5 it.c.ns.length e5, .slice d6 it.c.kids.length e6, .int .i64 it.c.p, .int .i64 it.p] 62) = wk at *
      obtain ⟨q0, q1, q2, q3, q4, q5, q6, q7, q8, q9, q10⟩ := ld11 HSB.out
      have fw2 : IntKind.i64.wrap ((k : Int) + 1) = ((k + 1 : Nat) : Int) := by have := HLL.out; have := HK.out; simp [IntKind.wrap, IntKind.bits, IntKind.signed]; omega
      go_wp2_with (go_at_call 66; refine HIT.out.mono ?_; rintro e w3 ⟨rfl, r3, x3⟩; have R3 := hide r3; have X3 := hide (XX2.out.trans x3); clear r3 x3)
      go_roundg (L.length - (k + 1) + 1)
      case measure => have := HG.out; have := HK.out; omega
      case rel => exact ⟨k + 1, z1, by first | rfl | (rw [show wrap64 ((k : Int) + 1) = ((k + 1 : Nat) : Int) from fw2]), by have := HK.out; omega, HX1, R3, X3, by omega⟩
    · have hlt' : ¬ (k : Int) < (L.length : Int) := by omega
      have HF := HP.out
      rw [List.drop_eq_nil_of_le (by omega)] at HF
      obtain rfl : z = y := Option.some.inj HF
      have HST := hide RR.out.string
      have XXR := hide (XX.out.trans ((KpO.to_below XR.out (Nat.le_refl _) RW.out.le).mono HQ.out))
      clear HF HP hlt
      go_wp2_with (go_at_call 67; refine HST.out.mono ?_; rintro e w3 ⟨rfl, x3⟩; have X3 := hide (XXR.out.trans (x3.mono HQ.out)); clear x3)
      go_ret
      exact ⟨rfl, X3.out⟩
end Go.Proofs.YtlmhofjiobmodaaGreatDoor
/-
  A condition, an item, a policy held against itself. Condition: such as are written.
-/
namespace Go.Proofs.YtlmhofjiobmodaaGreatDoor
open Go.RowKit Go.Lib

theorem NoM.empty {c : CT} (h : NoM c) : c.pre = [] ∧ c.ns = [] := by
  unfold NoM at h
  rcases h with ⟨_, _, _, h1, _, h2, _⟩ | ⟨_, _, h1, _, h2, _⟩ | ⟨_, _, _, h1, _, h2⟩ | ⟨_, _, _, h1, h2, _⟩
  all_goals exact ⟨h1, h2⟩
theorem CtAt.spans {w : World} {base : Nat} {c : CT} {v0 v1 v2 v3 v4 v5 v6 v7 : Value} {bs : List Nat} (h : CtAt w base c [v0, v1, v2, v3, v4, v5, v6, v7] bs) : w.ownsRow base 68 2 v4 c.sp.length (prC c.sp) := by
  cases c with
  | mk k nm tx pre sp ns kids p =>
    unfold CtAt at h
    obtain ⟨u3, u4, u5, u6, cs, ks, h1, h2, h3, _⟩ := h
    injection h1 with _ h1
    injection h1 with _ h1
    injection h1 with _ h1
    injection h1 with _ h1
    injection h1 with h1 _
    rw [h1]
    exact h3
/-- As is written, and not wide. -/
def SmpW : Nat → CT → Prop
  | 0, _ => False
  | f + 1, c => NoM c ∧ c.sp.length ≤ 1048576 ∧ c.kids.length ≤ 1048576 ∧ ∀ d ∈ c.kids, SmpW f d
def SelfC (f : Nat) : Prop := ∀ (c : CT) (w : World) (b0 : Nat) (vs : List Value) (bs : List Nat), SmpW f c → CtAt w b0 c vs bs → Calls Tryz.prog 71 #[.agg vs.toArray, .agg vs.toArray] w fun e w' => e = .returned (.bool true) ∧ Below w.heap.size w w'
theorem enters71 : ∀ (args : Array Value) (w : World), (callFunc 71 args).run Tryz.prog w = .ok (.enter 71 args) w := fun _ _ => by kernel_rfl
theorem enters48 : ∀ (args : Array Value) (w : World), (callFunc 48 args).run Tryz.prog w = .ok (.enter 48 args) w := fun _ _ => by kernel_rfl
set_option maxRecDepth 100000 in
set_option maxHeartbeats 4000000 in
theorem equalK_self {f : Nat} (hC : SelfC f) {w : World} {b0 : Nat} {v : Value} {KS : List CT} {cs : List Value} {ks : List Nat} (hl : KS.length ≤ 1048576) (hs : ∀ d ∈ KS, SmpW f d) (hrow : w.ownsRow b0 60 8 v KS.length cs) (hkd : KidsAt w b0 KS cs ks) :
    Calls Tryz.prog 113 #[v, v, .func (.func 71) #[] #[]] w fun e w' => e = .returned (.bool true) ∧ Below w.heap.size w w' := by
  obtain ⟨ao, cp, hv, hav⟩ := own_shape hrow
  subst hv
  have HRW := hide hrow
  have HKD := hide hkd
  have HAV := hide hav
  have HLL := hide hl
  have HSS := hide hs
  have HCC := hide hC
  have hE := enters71
  clear hrow hkd hav hl hs hC
  go_enter Tryz.func113, Tryz.ntmps113
  go_wp2
  go_loopg [7, 8, 9, 17] (KS.length + 1) (fun gg x7 x8 x9 x17 wr => ∃ k : Nat, x17 = .int .i64 (k : Nat) ∧ k ≤ KS.length ∧ Hid (Below w.heap.size w wr) ∧ KS.length - k < gg)
  case atStart => exact ⟨0, rfl, by omega, hide (Below.refl _ _), by omega⟩
  case round =>
    obtain ⟨k, rfl, hk, XR, hg⟩ := hrel
    have HG := hide hg
    clear hg
    by_cases hlt : k < KS.length
    · have hlt' : (k : Int) < (KS.length : Int) := by omega
      obtain ⟨g, rfl⟩ : ∃ g, ao = some ⟨g, 0, none⟩ := HAV.out (by omega)
      obtain ⟨d, hdd⟩ : ∃ d, d = KS[k] := ⟨_, rfl⟩
      have HME : Hid (SmpW f d) := by
        unfold Hid
        rw [hdd]
        exact HSS.out _ (List.getElem_mem hlt)
      obtain ⟨us, bs2, hcu, hcell, _⟩ := HKD.out.get k hlt
      rw [← hdd] at hcu
      obtain ⟨d3, e3, d4, e4, d5, e5, d6, e6, rfl⟩ := hcu.eight
      have HCU := hide (hcu.below XR.out)
      have HK := hide hlt
      have hcl : ∀ V, Below w.heap.size w V → ∀ r, r < 8 → V.cell? ⟨g, k * 8 + r, none⟩ = [.int .i64 d.k, .string ⟨d.nm.toArray⟩, .string ⟨d.tx.toArray⟩, .slice d3 d.pre.length e3, .slice d4 d.sp.length e4, .slice d5 d.ns.length e5, .slice d6 d.kids.length e6, .int .i64 d.p][r]? := fun V y r hr => by
        rw [World.ownsRow.cellAt (own_below HRW.out y) (k * 8 + r) (by omega), hcell r hr]
      have HCL := hide hcl
      clear hcl hcell hcu hdd hlt
      have q0 := HCL.out wr XR.out 0 (by omega)
      have q1 := HCL.out wr XR.out 1 (by omega)
      have q2 := HCL.out wr XR.out 2 (by omega)
      have q3 := HCL.out wr XR.out 3 (by omega)
      have q4 := HCL.out wr XR.out 4 (by omega)
      have q5 := HCL.out wr XR.out 5 (by omega)
      have q6 := HCL.out wr XR.out 6 (by omega)
      have q7 := HCL.out wr XR.out 7 (by omega)
      simp only [List.getElem?_cons_zero, List.getElem?_cons_succ, Nat.add_zero] at q0 q1 q2 q3 q4 q5 q6 q7
      have HSB := hide (heap_alloc_new wr (.cells #[.int .i64 d.k, .string ⟨d.nm.toArray⟩, .string ⟨d.tx.toArray⟩, .slice d3 d.pre.length e3, .slice d4 d.sp.length e4, .slice d5 d.ns.length e5, .slice d6 d.kids.length e6, .int .i64 d.p] 60))
      have XK : Hid (Below wr.heap.size wr (wr.alloc (.cells #[.int .i64 d.k, .string ⟨d.nm.toArray⟩, .string ⟨d.tx.toArray⟩, .slice d3 d.pre.length e3, .slice d4 d.sp.length e4, .slice d5 d.ns.length e5, .slice d6 d.kids.length e6, .int .i64 d.p] 60))) := al (Below.refl _ _) _
      go_upto_region 6 with fail
      clear q0 q1 q2 q3 q4 q5 q6 q7
      have XX := hide (bt XR.out XK.out (Nat.le_refl _))
      have HC1 := hide (HCU.out.below XK.out)
      obtain ⟨P, hP⟩ : ∃ P, P = wr.heap.size := ⟨_, rfl⟩
      rw [← hP] at HSB ⊢
      clear hP XK HCU XR
      generalize wr.alloc (.cells #[.int .i64 d.k, .string ⟨d.nm.toArray⟩, .string ⟨d.tx.toArray⟩, .slice d3 d.pre.length e3, .slice d4 d.sp.length e4, .slice d5 d.ns.length e5, .slice d6 d.kids.length e6, .int .i64 d.p] 60) = wk at *
      have q0 := HCL.out wk XX.out 0 (by omega)
      have q1 := HCL.out wk XX.out 1 (by omega)
      have q2 := HCL.out wk XX.out 2 (by omega)
      have q3 := HCL.out wk XX.out 3 (by omega)
      have q4 := HCL.out wk XX.out 4 (by omega)
      have q5 := HCL.out wk XX.out 5 (by omega)
      have q6 := HCL.out wk XX.out 6 (by omega)
      have q7 := HCL.out wk XX.out 7 (by omega)
      simp only [List.getElem?_cons_zero, List.getElem?_cons_succ, Nat.add_zero] at q0 q1 q2 q3 q4 q5 q6 q7
      have HSC := hide (heap_alloc_new wk (.cells #[.int .i64 d.k, .string ⟨d.nm.toArray⟩, .string ⟨d.tx.toArray⟩, .slice d3 d.pre.length e3, .slice d4 d.sp.length e4, .slice d5 d.ns.length e5, .slice d6 d.kids.length e6, .int .i64 d.p] 60))
      have XK : Hid (Below wk.heap.size wk (wk.alloc (.cells #[.int .i64 d.k, .string ⟨d.nm.toArray⟩, .string ⟨d.tx.toArray⟩, .slice d3 d.pre.length e3, .slice d4 d.sp.length e4, .slice d5 d.ns.length e5, .slice d6 d.kids.length e6, .int .i64 d.p] 60))) := al (Below.refl _ _) _
      have HSB2 := hide ((XK.out.block P (lt_of_block HSB.out)).trans HSB.out)
      go_upto_region 7 with fail
      clear q0 q1 q2 q3 q4 q5 q6 q7 HCL HSB
      have XX2 := hide (bt XX.out XK.out (Nat.le_refl _))
      have HC2 := hide (HC1.out.below XK.out)
      obtain ⟨Q, hQ⟩ : ∃ Q, Q = wk.heap.size := ⟨_, rfl⟩
      rw [← hQ] at HSC ⊢
      clear hQ XK HC1 XX
      generalize wk.alloc (.cells #[.int .i64 d.k, .string ⟨d.nm.toArray⟩, .string ⟨d.tx.toArray⟩, .slice d3 d.pre.length e3, .slice d4 d.sp.length e4, .slice d5 d.ns.length e5, .slice d6 d.kids.length e6, .int .i64 d.p] 60) = wj at *
      obtain ⟨q0, q1, q2, q3, q4, q5, q6, q7⟩ := ld8 HSB2.out
      obtain ⟨u0, u1, u2, u3, u4, u5, u6, u7⟩ := ld8 HSC.out
      have HIX := hide (HCC.out d wj b0 _ bs2 HME.out HC2.out)
      have fw : IntKind.i64.wrap ((k : Int) + 1) = ((k + 1 : Nat) : Int) := by have := HLL.out; have := HK.out; simp [IntKind.wrap, IntKind.bits, IntKind.signed]; omega
      go_wp2_with (fail)
      refine HIX.out.mono ?_
      rintro e w3 ⟨rfl, x3⟩
      have X3 := hide (bt XX2.out x3 (Nat.le_refl _))
      clear x3 q0 q1 q2 q3 q4 q5 q6 q7 u0 u1 u2 u3 u4 u5 u6 u7
      go_wp2
      go_roundg (KS.length - (k + 1) + 1)
      case measure => have := HG.out; have := HK.out; omega
      case rel => exact ⟨k + 1, by first | rfl | (rw [show wrap64 ((k : Int) + 1) = ((k + 1 : Nat) : Int) from fw]), by have := HK.out; omega, X3, by omega⟩
    · have hlt' : ¬ (k : Int) < (KS.length : Int) := by omega
      go_wp2
      go_ret
      exact ⟨rfl, XR.out⟩
end Go.Proofs.YtlmhofjiobmodaaGreatDoor
/-
  A condition, an item, a policy held against itself; a policy of one item against none. Condition: such as are written.
-/
namespace Go.Proofs.YtlmhofjiobmodaaGreatDoor
open Go.RowKit Go.Lib

set_option maxRecDepth 100000 in
set_option maxHeartbeats 8000000 in
theorem self_step {f : Nat} (hC : SelfC f) : SelfC (f + 1) := fun c w b0 vs bs hs hc => by
  obtain ⟨hno, hsp, hkl, hkd⟩ := hs
  obtain ⟨he1, he2⟩ := hno.empty
  have HCT := hide hc
  obtain ⟨a3, c3, a4, c4, a5, c5, a6, c6, rfl⟩ := hc.eight
  rw [he1, he2] at HCT ⊢
  simp only [List.length_nil] at HCT ⊢
  obtain ⟨cs, ks, hrow, hkk, _⟩ := HCT.out.kidsRow
  have hsr := HCT.out.spans
  obtain ⟨W, hW⟩ : ∃ W, W = (w.alloc (.cells #[.int .i64 c.k, .string ⟨c.nm.toArray⟩, .string ⟨c.tx.toArray⟩, .slice a3 0 c3, .slice a4 c.sp.length c4, .slice a5 0 c5, .slice a6 c.kids.length c6, .int .i64 c.p] 60)).alloc (.cells #[.int .i64 c.k, .string ⟨c.nm.toArray⟩, .string ⟨c.tx.toArray⟩, .slice a3 0 c3, .slice a4 c.sp.length c4, .slice a5 0 c5, .slice a6 c.kids.length c6, .int .i64 c.p] 60) := ⟨_, rfl⟩
  obtain ⟨b1, hb1⟩ : ∃ b, b = w.heap.size := ⟨_, rfl⟩
  obtain ⟨b2, hb2⟩ : ∃ b, b = w.heap.size + 1 := ⟨_, rfl⟩
  have XW := hide (show Below w.heap.size w W by rw [hW]; exact al (al (Below.refl _ _) _) _)
  have B1 := hide (show W.heap[b1]? = some (.cells #[.int .i64 c.k, .string ⟨c.nm.toArray⟩, .string ⟨c.tx.toArray⟩, .slice a3 0 c3, .slice a4 c.sp.length c4, .slice a5 0 c5, .slice a6 c.kids.length c6, .int .i64 c.p] 60 (0, 0)) by
    rw [hW, hb1]
    exact (heap_alloc_old _ _ (by simp)).trans (heap_alloc_new w _))
  have B2 := hide (show W.heap[b2]? = some (.cells #[.int .i64 c.k, .string ⟨c.nm.toArray⟩, .string ⟨c.tx.toArray⟩, .slice a3 0 c3, .slice a4 c.sp.length c4, .slice a5 0 c5, .slice a6 c.kids.length c6, .int .i64 c.p] 60 (0, 0)) by
    rw [hW, hb2, show w.heap.size + 1 = (w.alloc (.cells #[.int .i64 c.k, .string ⟨c.nm.toArray⟩, .string ⟨c.tx.toArray⟩, .slice a3 0 c3, .slice a4 c.sp.length c4, .slice a5 0 c5, .slice a6 c.kids.length c6, .int .i64 c.p] 60)).heap.size by simp]
    exact heap_alloc_new _ _)
  have HPE := hide (equalP_none a3 c3)
  have HNE := hide (equalN_none a5 c5)
  have HSE := hide (fun V (y : Below w.heap.size w V) => equalS_self hsp (own_below hsr y))
  have HKE := hide (fun V (y : Below w.heap.size w V) => equalK_self hC hkl hkd (own_below hrow y) (KidsAt.below hkk y))
  clear hsr hrow hkk hno hsp hkl hkd he1 he2 hc HCT hC
  generalize c.k = ck at *
  generalize c.nm = nm at *
  generalize c.tx = tx at *
  generalize c.p = cp at *
  generalize c.sp.length = nsp at *
  generalize c.kids.length = nkids at *
  have Q1 : Hid (∀ V, Below W.heap.size W V → V.heap[b1]? = some (.cells #[.int .i64 ck, .string ⟨nm.toArray⟩, .string ⟨tx.toArray⟩, .slice a3 0 c3, .slice a4 nsp c4, .slice a5 0 c5, .slice a6 nkids c6, .int .i64 cp] 60 (0, 0)) ∧ V.heap[b2]? = some (.cells #[.int .i64 ck, .string ⟨nm.toArray⟩, .string ⟨tx.toArray⟩, .slice a3 0 c3, .slice a4 nsp c4, .slice a5 0 c5, .slice a6 nkids c6, .int .i64 cp] 60 (0, 0))) := fun V y => ⟨(y.block b1 (lt_of_block B1.out)).trans B1.out, (y.block b2 (lt_of_block B2.out)).trans B2.out⟩
  obtain ⟨q0, q1, q2, q3, q4, q5, q6, q7⟩ := ld8 B1.out
  obtain ⟨u0, u1, u2, u3, u4, u5, u6, u7⟩ := ld8 B2.out
  go_enter Tryz.func71, Tryz.ntmps71
  go_upto_region 1 with fail
  rw [← hb2, ← hW, ← hb1]
  clear hW hb1 hb2
  go_wp2_with (first
    | (go_at_call 110; refine (HPE.out _).mono ?_; rintro e w1 ⟨rfl, hw⟩; have hw2 := hw.symm; clear hw; subst hw2)
    | (go_at_call 111; refine (HSE.out _ XW.out).mono ?_; rintro e w2 ⟨rfl, x2⟩; have X2 := hide x2; clear x2 q0 q1 q2 q3 q4 q5 q6 q7 u0 u1 u2 u3 u4 u5 u6 u7; obtain ⟨q0, q1, q2, q3, q4, q5, q6, q7⟩ := ld8 (Q1.out _ X2.out).1; obtain ⟨u0, u1, u2, u3, u4, u5, u6, u7⟩ := ld8 (Q1.out _ X2.out).2)
    | (go_at_call 112; refine (HNE.out _).mono ?_; rintro e w3 ⟨rfl, hw⟩; have hw2 := hw.symm; clear hw; subst hw2)
    | (go_at_call 113; refine (HKE.out _ (bt XW.out X2.out (Nat.le_refl _))).mono ?_; rintro e w4 ⟨rfl, x4⟩; have X4 := hide (bt (bt XW.out X2.out (Nat.le_refl _)) x4 (Nat.le_refl _)); clear x4))
  go_ret
  exact ⟨rfl, X4.out⟩
theorem self_all : ∀ f, SelfC f
  | 0 => fun _ _ _ _ _ hs _ => absurd hs (fun h => h)
  | f + 1 => self_step (self_all f)
set_option maxRecDepth 100000 in
set_option maxHeartbeats 4000000 in
theorem sameI_self {f : Nat} {it : IT} {w : World} {b0 : Nat} {vs : List Value} {bs : List Nat} (hs : SmpW f it.c) (hc : CtAt w b0 it.c vs bs) : Calls Tryz.prog 48 #[.agg (itV it vs).toArray, .agg (itV it vs).toArray] w fun e w' => e = .returned (.bool true) ∧ Below w.heap.size w w' := by
  have HCC := hide (fun V (y : Below w.heap.size w V) => self_all f it.c V b0 vs bs hs (hc.below y))
  obtain ⟨d3, e3, d4, e4, d5, e5, d6, e6, rfl⟩ := hc.eight
  unfold itV
  show Calls Tryz.prog 48 #[.agg #[.int .i64 it.k, .string ⟨it.nm.toArray⟩, .int .i64 it.c.k, .string ⟨it.c.nm.toArray⟩, .string ⟨it.c.tx.toArray⟩, .slice d3 it.c.pre.length e3, .slice d4 it.c.sp.length e4, .slice d5 it.c.ns.length e5, .slice d6 it.c.kids.length e6, .int .i64 it.c.p, .int .i64 it.p], .agg #[.int .i64 it.k, .string ⟨it.nm.toArray⟩, .int .i64 it.c.k, .string ⟨it.c.nm.toArray⟩, .string ⟨it.c.tx.toArray⟩, .slice d3 it.c.pre.length e3, .slice d4 it.c.sp.length e4, .slice d5 it.c.ns.length e5, .slice d6 it.c.kids.length e6, .int .i64 it.c.p, .int .i64 it.p]] w _
  obtain ⟨W, hW⟩ : ∃ W, W = (w.alloc (.cells #[.int .i64 it.k, .string ⟨it.nm.toArray⟩, .int .i64 it.c.k, .string ⟨it.c.nm.toArray⟩, .string ⟨it.c.tx.toArray⟩, .slice d3 it.c.pre.length e3, .slice d4 it.c.sp.length e4, .slice d5 it.c.ns.length e5, .slice d6 it.c.kids.length e6, .int .i64 it.c.p, .int .i64 it.p] 62)).alloc (.cells #[.int .i64 it.k, .string ⟨it.nm.toArray⟩, .int .i64 it.c.k, .string ⟨it.c.nm.toArray⟩, .string ⟨it.c.tx.toArray⟩, .slice d3 it.c.pre.length e3, .slice d4 it.c.sp.length e4, .slice d5 it.c.ns.length e5, .slice d6 it.c.kids.length e6, .int .i64 it.c.p, .int .i64 it.p] 62) := ⟨_, rfl⟩
  obtain ⟨b1, hb1⟩ : ∃ b, b = w.heap.size := ⟨_, rfl⟩
  obtain ⟨b2, hb2⟩ : ∃ b, b = w.heap.size + 1 := ⟨_, rfl⟩
  have XW := hide (show Below w.heap.size w W by rw [hW]; exact al (al (Below.refl _ _) _) _)
  have B1 := hide (show W.heap[b1]? = some (.cells #[.int .i64 it.k, .string ⟨it.nm.toArray⟩, .int .i64 it.c.k, .string ⟨it.c.nm.toArray⟩, .string ⟨it.c.tx.toArray⟩, .slice d3 it.c.pre.length e3, .slice d4 it.c.sp.length e4, .slice d5 it.c.ns.length e5, .slice d6 it.c.kids.length e6, .int .i64 it.c.p, .int .i64 it.p] 62 (0, 0)) by
    rw [hW, hb1]
    exact (heap_alloc_old _ _ (by simp)).trans (heap_alloc_new w _))
  have B2 := hide (show W.heap[b2]? = some (.cells #[.int .i64 it.k, .string ⟨it.nm.toArray⟩, .int .i64 it.c.k, .string ⟨it.c.nm.toArray⟩, .string ⟨it.c.tx.toArray⟩, .slice d3 it.c.pre.length e3, .slice d4 it.c.sp.length e4, .slice d5 it.c.ns.length e5, .slice d6 it.c.kids.length e6, .int .i64 it.c.p, .int .i64 it.p] 62 (0, 0)) by
    rw [hW, hb2, show w.heap.size + 1 = (w.alloc (.cells #[.int .i64 it.k, .string ⟨it.nm.toArray⟩, .int .i64 it.c.k, .string ⟨it.c.nm.toArray⟩, .string ⟨it.c.tx.toArray⟩, .slice d3 it.c.pre.length e3, .slice d4 it.c.sp.length e4, .slice d5 it.c.ns.length e5, .slice d6 it.c.kids.length e6, .int .i64 it.c.p, .int .i64 it.p] 62)).heap.size by simp]
    exact heap_alloc_new _ _)
  clear hs hc
  generalize it.k = ik at *
  generalize it.nm = inm at *
  generalize it.p = ip at *
  generalize it.c.k = ck at *
  generalize it.c.nm = nm at *
  generalize it.c.tx = tx at *
  generalize it.c.p = cp at *
  generalize it.c.pre.length = npre at *
  generalize it.c.sp.length = nsp at *
  generalize it.c.ns.length = nns at *
  generalize it.c.kids.length = nkids at *
  obtain ⟨q0, q1, q2, q3, q4, q5, q6, q7, q8, q9, q10⟩ := ld11 B1.out
  obtain ⟨u0, u1, u2, u3, u4, u5, u6, u7, u8, u9, u10⟩ := ld11 B2.out
  go_enter Tryz.func48, Tryz.ntmps48
  go_upto_region 1 with fail
  rw [← hb2, ← hW, ← hb1]
  clear hW hb1 hb2
  go_wp2_with (go_at_call 71; refine (HCC.out _ XW.out).mono ?_; rintro e w2 ⟨rfl, x2⟩; have X2 := hide (bt XW.out x2 (Nat.le_refl _)); clear x2)
  go_ret
  exact ⟨rfl, X2.out⟩
set_option maxRecDepth 100000 in
set_option maxHeartbeats 4000000 in
theorem equalI_self {f : Nat} {w : World} {b0 : Nat} {v : Value} {KS : List IT} {cs : List Value} {ks : List Nat} (hl : KS.length ≤ 1048576) (hs : ∀ d ∈ KS, SmpW f d.c) (hrow : w.ownsRow b0 62 11 v KS.length cs) (hkd : ItsAt w b0 KS cs ks) :
    Calls Tryz.prog 47 #[v, v, .func (.func 48) #[] #[]] w fun e w' => e = .returned (.bool true) ∧ Below w.heap.size w w' := by
  obtain ⟨ao, cp, hv, hav⟩ := own_shape hrow
  subst hv
  have HRW := hide hrow
  have HKD := hide hkd
  have HAV := hide hav
  have HLL := hide hl
  have HSS := hide hs
  have hE := enters48
  clear hrow hkd hav hl hs
  go_enter Tryz.func47, Tryz.ntmps47
  go_wp2
  go_loopg [7, 8, 9, 17] (KS.length + 1) (fun gg x7 x8 x9 x17 wr => ∃ k : Nat, x17 = .int .i64 (k : Nat) ∧ k ≤ KS.length ∧ Hid (Below w.heap.size w wr) ∧ KS.length - k < gg)
  case atStart => exact ⟨0, rfl, by omega, hide (Below.refl _ _), by omega⟩
  case round =>
    obtain ⟨k, rfl, hk, XR, hg⟩ := hrel
    have HG := hide hg
    clear hg
    by_cases hlt : k < KS.length
    · have hlt' : (k : Int) < (KS.length : Int) := by omega
      obtain ⟨g, rfl⟩ : ∃ g, ao = some ⟨g, 0, none⟩ := HAV.out (by omega)
      obtain ⟨it, hdd⟩ : ∃ it, it = KS[k] := ⟨_, rfl⟩
      have HME : Hid (SmpW f it.c) := by
        unfold Hid
        rw [hdd]
        exact HSS.out _ (List.getElem_mem hlt)
      obtain ⟨us, bs2, hcu, hcell⟩ := HKD.out.get k hlt
      rw [← hdd] at hcu hcell
      obtain ⟨d3, e3, d4, e4, d5, e5, d6, e6, rfl⟩ := hcu.eight
      have HCU := hide (hcu.below XR.out)
      have HK := hide hlt
      have hcl : ∀ V, Below w.heap.size w V → ∀ r, r < 11 → V.cell? ⟨g, k * 11 + r, none⟩ = [.int .i64 it.k, .string ⟨it.nm.toArray⟩, .int .i64 it.c.k, .string ⟨it.c.nm.toArray⟩, .string ⟨it.c.tx.toArray⟩, .slice d3 it.c.pre.length e3, .slice d4 it.c.sp.length e4, .slice d5 it.c.ns.length e5, .slice d6 it.c.kids.length e6, .int .i64 it.c.p, .int .i64 it.p][r]? := fun V y r hr => by
        rw [World.ownsRow.cellAt (own_below HRW.out y) (k * 11 + r) (by omega), hcell r hr]
        rfl
      have HCL := hide hcl
      clear hcl hcell hcu hdd hlt
      have q0 := HCL.out wr XR.out 0 (by omega)
      have q1 := HCL.out wr XR.out 1 (by omega)
      have q2 := HCL.out wr XR.out 2 (by omega)
      have q3 := HCL.out wr XR.out 3 (by omega)
      have q4 := HCL.out wr XR.out 4 (by omega)
      have q5 := HCL.out wr XR.out 5 (by omega)
      have q6 := HCL.out wr XR.out 6 (by omega)
      have q7 := HCL.out wr XR.out 7 (by omega)
      have q8 := HCL.out wr XR.out 8 (by omega)
      have q9 := HCL.out wr XR.out 9 (by omega)
      have q10 := HCL.out wr XR.out 10 (by omega)
      simp only [List.getElem?_cons_zero, List.getElem?_cons_succ, Nat.add_zero] at q0 q1 q2 q3 q4 q5 q6 q7 q8 q9 q10
      have HSB := hide (heap_alloc_new wr (.cells #[.int .i64 it.k, .string ⟨it.nm.toArray⟩, .int .i64 it.c.k, .string ⟨it.c.nm.toArray⟩, .string ⟨it.c.tx.toArray⟩, .slice d3 it.c.pre.length e3, .slice d4 it.c.sp.length e4, .slice d5 it.c.ns.length e5, .slice d6 it.c.kids.length e6, .int .i64 it.c.p, .int .i64 it.p] 62))
      have XK : Hid (Below wr.heap.size wr (wr.alloc (.cells #[.int .i64 it.k, .string ⟨it.nm.toArray⟩, .int .i64 it.c.k, .string ⟨it.c.nm.toArray⟩, .string ⟨it.c.tx.toArray⟩, .slice d3 it.c.pre.length e3, .slice d4 it.c.sp.length e4, .slice d5 it.c.ns.length e5, .slice d6 it.c.kids.length e6, .int .i64 it.c.p, .int .i64 it.p] 62))) := al (Below.refl _ _) _
      go_upto_region 6 with fail
      clear q0 q1 q2 q3 q4 q5 q6 q7 q8 q9 q10
      have XX := hide (bt XR.out XK.out (Nat.le_refl _))
      have HC1 := hide (HCU.out.below XK.out)
      obtain ⟨P, hP⟩ : ∃ P, P = wr.heap.size := ⟨_, rfl⟩
      rw [← hP] at HSB ⊢
      clear hP XK HCU XR
      generalize wr.alloc (.cells #[.int .i64 it.k, .string ⟨it.nm.toArray⟩, .int .i64 it.c.k, .string ⟨it.c.nm.toArray⟩, .string ⟨it.c.tx.toArray⟩, .slice d3 it.c.pre.length e3, .slice d4 it.c.sp.length e4, .slice d5 it.c.ns.length e5, .slice d6 it.c.kids.length e6, .int .i64 it.c.p, .int .i64 it.p] 62) = wk at *
      have q0 := HCL.out wk XX.out 0 (by omega)
      have q1 := HCL.out wk XX.out 1 (by omega)
      have q2 := HCL.out wk XX.out 2 (by omega)
      have q3 := HCL.out wk XX.out 3 (by omega)
      have q4 := HCL.out wk XX.out 4 (by omega)
      have q5 := HCL.out wk XX.out 5 (by omega)
      have q6 := HCL.out wk XX.out 6 (by omega)
      have q7 := HCL.out wk XX.out 7 (by omega)
      have q8 := HCL.out wk XX.out 8 (by omega)
      have q9 := HCL.out wk XX.out 9 (by omega)
      have q10 := HCL.out wk XX.out 10 (by omega)
      simp only [List.getElem?_cons_zero, List.getElem?_cons_succ, Nat.add_zero] at q0 q1 q2 q3 q4 q5 q6 q7 q8 q9 q10
      have HSC := hide (heap_alloc_new wk (.cells #[.int .i64 it.k, .string ⟨it.nm.toArray⟩, .int .i64 it.c.k, .string ⟨it.c.nm.toArray⟩, .string ⟨it.c.tx.toArray⟩, .slice d3 it.c.pre.length e3, .slice d4 it.c.sp.length e4, .slice d5 it.c.ns.length e5, .slice d6 it.c.kids.length e6, .int .i64 it.c.p, .int .i64 it.p] 62))
      have XK : Hid (Below wk.heap.size wk (wk.alloc (.cells #[.int .i64 it.k, .string ⟨it.nm.toArray⟩, .int .i64 it.c.k, .string ⟨it.c.nm.toArray⟩, .string ⟨it.c.tx.toArray⟩, .slice d3 it.c.pre.length e3, .slice d4 it.c.sp.length e4, .slice d5 it.c.ns.length e5, .slice d6 it.c.kids.length e6, .int .i64 it.c.p, .int .i64 it.p] 62))) := al (Below.refl _ _) _
      have HSB2 := hide ((XK.out.block P (lt_of_block HSB.out)).trans HSB.out)
      go_upto_region 7 with fail
      clear q0 q1 q2 q3 q4 q5 q6 q7 q8 q9 q10 HCL HSB
      have XX2 := hide (bt XX.out XK.out (Nat.le_refl _))
      have HC2 := hide (HC1.out.below XK.out)
      obtain ⟨Q, hQ⟩ : ∃ Q, Q = wk.heap.size := ⟨_, rfl⟩
      rw [← hQ] at HSC ⊢
      clear hQ XK HC1 XX
      generalize wk.alloc (.cells #[.int .i64 it.k, .string ⟨it.nm.toArray⟩, .int .i64 it.c.k, .string ⟨it.c.nm.toArray⟩, .string ⟨it.c.tx.toArray⟩, .slice d3 it.c.pre.length e3, .slice d4 it.c.sp.length e4, .slice d5 it.c.ns.length e5, .slice d6 it.c.kids.length e6, .int .i64 it.c.p, .int .i64 it.p] 62) = wj at *
      obtain ⟨q0, q1, q2, q3, q4, q5, q6, q7, q8, q9, q10⟩ := ld11 HSB2.out
      obtain ⟨u0, u1, u2, u3, u4, u5, u6, u7, u8, u9, u10⟩ := ld11 HSC.out
      have HIX := hide (sameI_self HME.out HC2.out)
      unfold itV at HIX
      have fw : IntKind.i64.wrap ((k : Int) + 1) = ((k + 1 : Nat) : Int) := by have := HLL.out; have := HK.out; simp [IntKind.wrap, IntKind.bits, IntKind.signed]; omega
      go_wp2_with (fail)
      refine HIX.out.mono ?_
      rintro e w3 ⟨rfl, x3⟩
      have X3 := hide (bt XX2.out x3 (Nat.le_refl _))
      clear x3 q0 q1 q2 q3 q4 q5 q6 q7 q8 q9 q10 u0 u1 u2 u3 u4 u5 u6 u7 u8 u9 u10
      go_wp2
      go_roundg (KS.length - (k + 1) + 1)
      case measure => have := HG.out; have := HK.out; omega
      case rel => exact ⟨k + 1, by first | rfl | (rw [show wrap64 ((k : Int) + 1) = ((k + 1 : Nat) : Int) from fw]), by have := HK.out; omega, X3, by omega⟩
    · have hlt' : ¬ (k : Int) < (KS.length : Int) := by omega
      go_wp2
      go_ret
      exact ⟨rfl, XR.out⟩
set_option maxRecDepth 100000 in
theorem sameP_self {f : Nat} {w : World} {b0 : Nat} {L : List IT} {v : Value} {cs : List Value} {bs : List Nat} (hl : L.length ≤ 1048576) (hs : ∀ d ∈ L, SmpW f d.c) (h : PolA w b0 L v cs bs) : Calls Tryz.prog 24 #[.agg #[v], .agg #[v]] w fun e w' => e = .returned (.bool true) ∧ Below w.heap.size w w' := by
  obtain ⟨ao, cp, hv, _⟩ := own_shape h.row
  subst hv
  obtain ⟨W, hW⟩ : ∃ W, W = (w.alloc (.cells #[.slice ao L.length cp] 36)).alloc (.cells #[.slice ao L.length cp] 36) := ⟨_, rfl⟩
  obtain ⟨b1, hb1⟩ : ∃ b, b = w.heap.size := ⟨_, rfl⟩
  obtain ⟨b2, hb2⟩ : ∃ b, b = w.heap.size + 1 := ⟨_, rfl⟩
  have XW := hide (show Below w.heap.size w W by rw [hW]; exact al (al (Below.refl _ _) _) _)
  have q1 : W.cell? ⟨b1, 0, none⟩ = some (.slice ao L.length cp) := by
    rw [cell_of_row _ _ _ _ _ _ (show W.heap[b1]? = some (.cells #[.slice ao L.length cp] 36 (0, 0)) by
      rw [hW, hb1]
      exact (heap_alloc_old _ _ (by simp)).trans (heap_alloc_new w _))]
    rfl
  have q2 : W.cell? ⟨b2, 0, none⟩ = some (.slice ao L.length cp) := by
    rw [cell_of_row _ _ _ _ _ _ (show W.heap[b2]? = some (.cells #[.slice ao L.length cp] 36 (0, 0)) by
      rw [hW, hb2, show w.heap.size + 1 = (w.alloc (.cells #[.slice ao L.length cp] 36)).heap.size by simp]
      exact heap_alloc_new _ _)]
    rfl
  have HE := hide (equalI_self hl hs (own_below h.row XW.out) (h.below XW.out).its)
  clear h hl hs
  generalize L.length = n at *
  go_enter Tryz.func24, Tryz.ntmps24
  go_upto_region 1 with fail
  rw [← hb2, ← hW, ← hb1]
  clear hW hb1 hb2
  go_wp2_with (go_at_call 47; refine HE.out.mono ?_; rintro e w2 ⟨rfl, x2⟩; have X2 := hide (bt XW.out x2 (Nat.le_refl _)); clear x2)
  go_ret
  exact ⟨rfl, X2.out⟩
set_option maxRecDepth 100000 in
theorem sameI_none (a : Option Addr) (c : Nat) (fv : Value) (w : World) : Calls Tryz.prog 47 #[.slice a 1 c, .slice none 0 0, fv] w fun e w' => e = .returned (.bool false) ∧ w' = w := by
  go_enter Tryz.func47, Tryz.ntmps47
  go_wp2
  go_ret
  exact ⟨rfl, rfl⟩
set_option maxRecDepth 100000 in
theorem sameP_none (ao : Option Addr) (cp : Nat) (w : World) : Calls Tryz.prog 24 #[.agg #[.slice ao 1 cp], .agg #[.slice none 0 0]] w fun e w' => e = .returned (.bool false) ∧ Below w.heap.size w w' := by
  obtain ⟨W, hW⟩ : ∃ W, W = (w.alloc (.cells #[.slice ao 1 cp] 36)).alloc (.cells #[.slice none 0 0] 36) := ⟨_, rfl⟩
  obtain ⟨b1, hb1⟩ : ∃ b, b = w.heap.size := ⟨_, rfl⟩
  obtain ⟨b2, hb2⟩ : ∃ b, b = w.heap.size + 1 := ⟨_, rfl⟩
  have XW := hide (show Below w.heap.size w W by rw [hW]; exact al (al (Below.refl _ _) _) _)
  have q1 : W.cell? ⟨b1, 0, none⟩ = some (.slice ao 1 cp) := by
    rw [cell_of_row _ _ _ _ _ _ (show W.heap[b1]? = some (.cells #[.slice ao 1 cp] 36 (0, 0)) by
      rw [hW, hb1]
      exact (heap_alloc_old _ _ (by simp)).trans (heap_alloc_new w _))]
    rfl
  have q2 : W.cell? ⟨b2, 0, none⟩ = some (.slice none 0 0) := by
    rw [cell_of_row _ _ _ _ _ _ (show W.heap[b2]? = some (.cells #[.slice none 0 0] 36 (0, 0)) by
      rw [hW, hb2, show w.heap.size + 1 = (w.alloc (.cells #[.slice ao 1 cp] 36)).heap.size by simp]
      exact heap_alloc_new _ _)]
    rfl
  have HE := hide (sameI_none ao cp (.func (.func 48) #[] #[]))
  go_enter Tryz.func24, Tryz.ntmps24
  go_upto_region 1 with fail
  rw [← hb2, ← hW, ← hb1]
  clear hW hb1 hb2
  go_wp2_with (go_at_call 47; refine (HE.out _).mono ?_; rintro e w2 ⟨rfl, hw⟩; have hw2 := hw.symm; clear hw; subst hw2)
  go_ret
  exact ⟨rfl, XW.out⟩
end Go.Proofs.YtlmhofjiobmodaaGreatDoor
