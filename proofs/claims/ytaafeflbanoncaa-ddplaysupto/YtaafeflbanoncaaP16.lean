/-
  put by its contract, of whatever is known without a look. No condition.
-/
import Derived.Test.YtaafeflbanoncaaP15
namespace Go.Proofs.Ytaafeflbanoncaa
open Go.RowKit Go.Lib Go.Maps

/-- What the function that is held tells. -/
structure KnC (c : Cf) (cl : Nat) (caps : List Value) : Prop where
  kv : c.kv = .func (.func cl) #[] caps.toArray
  he : ∀ args w, (callFunc cl args).run Try.prog w = .ok (.enter cl args) w
  hq : QOk c
  kn : ∀ w N P G f g, MS w c N P G → hasR N f → hasR N g → (c.Z → g = 0) → Calls Try.prog cl (.agg #[.int .i64 f, .int .i64 g] :: caps).toArray w fun e w' => ∃ r is G', e = .returned (.tuple #[.int .i64 r, .bool is]) ∧ MS w' c N P G' ∧ Gw w G G' ∧ Kept (fun k => k = c.kb) w w' ∧ KnP c.S N c.op c.q f g r is
section
variable {w : World} {c : Cf} {N : List Nd} {P G : Nat → Prop}
theorem PtOk.rep {f g r : Int} (h : PtOk c.S N c.op c.q f g r) : Rep c.S N (phi c N f g) r := ⟨h.has, h.say⟩
set_option maxRecDepth 100000 in
set_option maxHeartbeats 4000000 in
theorem put_step {cl : Nat} {caps : List Value} {f g : Int} (hc : KnC c cl caps) (h : MS w c N P G) (hf : hasR N f) (hg : hasR N g) (hz : c.Z → g = 0)
    (hp : ∀ (l : Nat), l < c.S.length → min (lvl c.S N f) (lvl c.S N g) = (l : Int) → ∀ w N P G f g, MS w c N P G → hasR N f → hasR N g → (c.Z → g = 0) → (l : Int) < lvl c.S N f → (l : Int) < lvl c.S N g → Calls Try.prog 79 #[.pointer (some ⟨c.mm, 0, none⟩), .agg #[.int .i64 f, .int .i64 g]] w fun e w' => PutL c N P G f g w e w') :
    Calls Try.prog 79 #[.pointer (some ⟨c.mm, 0, none⟩), .agg #[.int .i64 f, .int .i64 g]] w fun e w' => PutL c N P G f g w e w' := by
  have HH := hide h
  have HF := hide hf
  have HG := hide hg
  have HZ := hide hz
  have HP := hide hp
  have HCC := hide hc
  have he := hc.he
  have y1 : Below w.heap.size w (w.alloc (.cells #[.int .i64 f, .int .i64 g] 100)) := al (Below.refl _ _) _
  have X1 := hide (bt y1 (Below.refl _ (w.alloc (.cells #[.int .i64 f, .int .i64 g] 100))).drew (Nat.le_refl _))
  have nb : (w.alloc (.cells #[.int .i64 f, .int .i64 g] 100)).drew.heap[w.heap.size]? = some (.cells #[.int .i64 f, .int .i64 g] 100 (0, 0)) := heap_alloc_new w _
  clear h hf hg hz hp hc y1
  go_enter Try.func79, Try.ntmps79
  go_upto_region 1 with fail
  have H1 := hide (HH.out.below X1.out)
  have PB : Hid (¬ P w.heap.size) := fun h => by have := HH.out.ca.plt h; omega
  refine wp_unt (S := fun V => V.heap[w.heap.size]? = some (.cells #[.int .i64 f, .int .i64 g] 100 (0, 0)) ∧ V.cell? ⟨c.mm, 1, none⟩ = some (.func (.func cl) #[] caps.toArray)) 10 (by kernel_rfl) ?_
  generalize (w.alloc (.cells #[.int .i64 f, .int .i64 g] 100)).drew = w1 at *
  generalize hpb : w.heap.size = pb at *
  have HPB := hide hpb
  clear hpb
  have hcell : ∀ V : World, V.heap[pb]? = some (.cells #[.int .i64 f, .int .i64 g] 100 (0, 0)) → V.cell? ⟨pb, 0, none⟩ = some (.int .i64 f) ∧ V.cell? ⟨pb, 1, none⟩ = some (.int .i64 g) := fun V hV => by
    constructor <;> (rw [cell_of_row V pb _ _ _ _ hV]; rfl)
  have HC := hide hcell
  clear hcell
  have hS : w1.heap[pb]? = some (.cells #[.int .i64 f, .int .i64 g] 100 (0, 0)) ∧ w1.cell? ⟨c.mm, 1, none⟩ = some (.func (.func cl) #[] caps.toArray) := ⟨nb, by rw [H1.out.cells.2.1, HCC.out.kv]⟩
  refine UntH.take (i := 0) (some 15) rfl rfl (by kernel_rfl) (by kernel_rfl) (by kernel_rfl) (by kernel_rfl) (fun _ _ _ _ h => h) (by rfl) hS ?_
  apply Exists.intro
  refine ⟨fun w' hw' => ?_, ?_⟩
  · (obtain ⟨q0, q1⟩ := HC.out w' hw'.1; have q2 := hw'.2)
    go_simp
    first | done | rfl
  try simp only [Act.put, List.setIfInBounds_toArray, List.set_cons_zero, List.set_cons_succ]
  refine UntH.take (i := 1) (some 16) rfl rfl (by kernel_rfl) (by kernel_rfl) (by kernel_rfl) (by kernel_rfl) (fun _ _ _ _ h => h) (by rfl) hS ?_
  apply Exists.intro
  refine ⟨fun w' hw' => ?_, ?_⟩
  · (obtain ⟨q0, q1⟩ := HC.out w' hw'.1; have q2 := hw'.2)
    go_simp
    first | done | rfl
  try simp only [Act.put, List.setIfInBounds_toArray, List.set_cons_zero, List.set_cons_succ]
  refine UntH.take (i := 2) (some 17) rfl rfl (by kernel_rfl) (by kernel_rfl) (by kernel_rfl) (by kernel_rfl) (fun _ _ _ _ h => h) (by rfl) hS ?_
  apply Exists.intro
  refine ⟨fun w' hw' => ?_, ?_⟩
  · (obtain ⟨q0, q1⟩ := HC.out w' hw'.1; have q2 := hw'.2)
    go_simp
    first | done | rfl
  try simp only [Act.put, List.setIfInBounds_toArray, List.set_cons_zero, List.set_cons_succ]
  refine UntH.take (i := 3) (some 18) rfl rfl (by kernel_rfl) (by kernel_rfl) (by kernel_rfl) (by kernel_rfl) (fun _ _ _ _ h => h) (by rfl) hS ?_
  apply Exists.intro
  refine ⟨fun w' hw' => ?_, ?_⟩
  · (obtain ⟨q0, q1⟩ := HC.out w' hw'.1; have q2 := hw'.2)
    go_simp
    first | done | rfl
  try simp only [Act.put, List.setIfInBounds_toArray, List.set_cons_zero, List.set_cons_succ]
  refine UntH.take (i := 4) (some 19) rfl rfl (by kernel_rfl) (by kernel_rfl) (by kernel_rfl) (by kernel_rfl) (fun _ _ _ _ h => h) (by rfl) hS ?_
  apply Exists.intro
  refine ⟨fun w' hw' => ?_, ?_⟩
  · (obtain ⟨q0, q1⟩ := HC.out w' hw'.1; have q2 := hw'.2)
    go_simp
    first | done | rfl
  try simp only [Act.put, List.setIfInBounds_toArray, List.set_cons_zero, List.set_cons_succ]
  have K1 := hide (HCC.out.kn w1 N P G f g H1.out HF.out HG.out HZ.out)
  refine UntH.step (i := 5) (by kernel_rfl) rfl (fun K hK => ?_)
  go_simp
  refine K1.out.mono ?_
  rintro e w2 ⟨r, is, G2, rfl, m2, gw2, k2, kn⟩
  have nb2 : w2.heap[pb]? = some (.cells #[.int .i64 f, .int .i64 g] 100 (0, 0)) := (k2.block pb (lt_of_block nb) (fun e => by
    obtain ⟨es, cl, h1⟩ := H1.out.kid.blk
    rw [← e, nb] at h1
    cases h1)).trans nb
  have hS2 : w2.heap[pb]? = some (.cells #[.int .i64 f, .int .i64 g] 100 (0, 0)) ∧ w2.cell? ⟨c.mm, 1, none⟩ = some (.func (.func cl) #[] caps.toArray) := ⟨nb2, by rw [m2.cells.2.1, HCC.out.kv]⟩
  go_simp
  refine hK _ _ hS2 ?_
  clear hK K K1
  have M2 := hide m2
  have Q2 := hide k2
  have GW2 := hide gw2
  have KN := hide kn
  clear m2 k2 gw2 kn
  refine UntH.take (i := 6) (some 14) rfl rfl (by kernel_rfl) (by kernel_rfl) (by kernel_rfl) (by kernel_rfl) (fun _ _ _ _ h => h) (by rfl) hS2 ?_
  apply Exists.intro
  refine ⟨fun w' hw' => ?_, ?_⟩
  · skip
    go_simp
    first | done | rfl
  try simp only [Act.put, List.setIfInBounds_toArray, List.set_cons_zero, List.set_cons_succ]
  refine UntH.take (i := 7) (some 21) rfl rfl (by kernel_rfl) (by kernel_rfl) (by kernel_rfl) (by kernel_rfl) (fun _ _ _ _ h => h) (by rfl) hS2 ?_
  apply Exists.intro
  refine ⟨fun w' hw' => ?_, ?_⟩
  · skip
    go_simp
    first | done | rfl
  try simp only [Act.put, List.setIfInBounds_toArray, List.set_cons_zero, List.set_cons_succ]
  refine UntH.take (i := 8) (some 22) rfl rfl (by kernel_rfl) (by kernel_rfl) (by kernel_rfl) (by kernel_rfl) (fun _ _ _ _ h => h) (by rfl) hS2 ?_
  apply Exists.intro
  refine ⟨fun w' hw' => ?_, ?_⟩
  · skip
    go_simp
    first | done | rfl
  try simp only [Act.put, List.setIfInBounds_toArray, List.set_cons_zero, List.set_cons_succ]
  refine UntH.take (i := 9) (some 6) rfl rfl (by kernel_rfl) (by kernel_rfl) (by kernel_rfl) (by kernel_rfl) (fun _ _ _ _ h => h) (by rfl) hS2 ?_
  apply Exists.intro
  refine ⟨fun w' hw' => ?_, ?_⟩
  · skip
    go_simp
    first | done | rfl
  try simp only [Act.put, List.setIfInBounds_toArray, List.set_cons_zero, List.set_cons_succ]
  refine UntH.last (by kernel_rfl) rfl (by kernel_rfl) (by kernel_rfl) (fun K hK => ?_)
  go_simp
  refine hK _ _ ?_
  clear hK K hS hS2 nb
  have NB2 := hide nb2
  clear nb2
  have KW : Hid (Kept (Fw c P) w w2 ∧ Gw w G G2) := ⟨(Kept.of_below (by rw [HPB.out]; exact X1.out)).trans_new Q2.out (fun b _ e => .inr (.inr e)), fun b hb => (GW2.out b hb).imp id (Nat.le_trans X1.out.size)⟩
  cases is with
  | true =>
    have FIN : Hid (PutL c N P G f g w (.returned (.tuple #[.int .i64 r, .int .i64 0])) w2) := ⟨r, 0, N, P, G2, rfl, M2.out, ⟨[], by simp⟩, KW.out.1, Gw.refl _ _, KW.out.2, ins_rep M2.out.ca.ok (KN.out.yes rfl).rep, .inl ⟨rfl, KN.out.yes rfl⟩⟩
    go_wp2
    go_ret2
    exact FIN.out
  | false =>
    obtain ⟨hl0, hql⟩ := KN.out.no rfl
    have hok := M2.out.ca.ok
    have hfl := hok.lvl_le HF.out
    have hgl := hok.lvl_le HG.out
    obtain ⟨l, hl⟩ : ∃ l : Nat, min (lvl c.S N f) (lvl c.S N g) = (l : Int) := ⟨(min (lvl c.S N f) (lvl c.S N g)).toNat, by omega⟩
    have hls : l < c.S.length := by omega
    rw [hl, Int.toNat_natCast] at hql
    have HQL := hide hql
    have HL := hide hl
    have HOK := hide hok
    have hfr : (0 ≤ f ∧ f ≤ 4294967296) ∧ (0 ≤ g ∧ g ≤ 4294967296) := by
      have h1 := hok.few
      have h2 := hok.m1
      have h3 := HF.out
      have h4 := HG.out
      unfold hasR at h3 h4
      omega
    have HKY := hide (keyP_is hfr.1.1 hfr.1.2 hfr.2.1 hfr.2.2)
    clear hl0 hql hl hok hfl hgl hfr
    go_upto_region 4 with fail
    have NB3 : Hid (w2.drew.heap[pb]? = some (.cells #[.int .i64 f, .int .i64 g] 100 (0, 0))) := NB2.out
    have M3 := hide (M2.out.below (Below.refl _ w2).drew)
    have KW3 : Hid (Kept (Fw c P) w w2.drew ∧ Gw w G G2) := ⟨KW.out.1.drew, KW.out.2⟩
    refine wp_unt (S := fun V => V = w2.drew) 10 (by kernel_rfl) ?_
    generalize w2.drew = w3 at *
    clear M2 KW NB2
    obtain ⟨D, hown, hall⟩ := M3.out.res
    have HOWN := hide hown
    have HALL := hide hall
    obtain ⟨v, ps, hrun, hv⟩ := hown.look_ok keyed100 Try.underlying105 (Try.zeroValue3 _) (zd := .lit (.int .i64 0)) (zp := []) (plainElem_int Try.underlying3 (by decide)) HKY.out
    obtain ⟨z, rfl, hz1, hz2⟩ := plainElem_int_inv Try.underlying3 hv
    have HZ1 := hide (congrArg Prod.fst hz1)
    clear hv hz1 hz2 hown hall
    obtain ⟨q0, q1⟩ := HC.out w3 NB3.out
    have q2 := M3.out.cells.2.2.1
    have q3 := M3.out.cells.1
    obtain ⟨hs, hhs⟩ : ∃ b, Maps.has D (keyP f g) = b := ⟨_, rfl⟩
    rw [hhs] at hrun
    have HHS := hide hhs
    clear hhs
    refine UntH.take (i := 0) (some 26) rfl rfl (by kernel_rfl) (by kernel_rfl) (by kernel_rfl) (by kernel_rfl) (fun _ _ _ _ h => h) (by rfl) rfl ?_
    apply Exists.intro
    refine ⟨fun w' hw' => ?_, ?_⟩
    · subst hw'
      go_simp
      first | done | rfl
    try simp only [Act.put, List.setIfInBounds_toArray, List.set_cons_zero, List.set_cons_succ]
    refine UntH.take (i := 1) (some 27) rfl rfl (by kernel_rfl) (by kernel_rfl) (by kernel_rfl) (by kernel_rfl) (fun _ _ _ _ h => h) (by rfl) rfl ?_
    apply Exists.intro
    refine ⟨fun w' hw' => ?_, ?_⟩
    · subst hw'
      go_simp
      first | done | rfl
    try simp only [Act.put, List.setIfInBounds_toArray, List.set_cons_zero, List.set_cons_succ]
    refine UntH.take (i := 2) (some 28) rfl rfl (by kernel_rfl) (by kernel_rfl) (by kernel_rfl) (by kernel_rfl) (fun _ _ _ _ h => h) (by rfl) rfl ?_
    apply Exists.intro
    refine ⟨fun w' hw' => ?_, ?_⟩
    · subst hw'
      go_simp
      first | done | rfl
    try simp only [Act.put, List.setIfInBounds_toArray, List.set_cons_zero, List.set_cons_succ]
    refine UntH.take (i := 3) (some 29) rfl rfl (by kernel_rfl) (by kernel_rfl) (by kernel_rfl) (by kernel_rfl) (fun _ _ _ _ h => h) (by rfl) rfl ?_
    apply Exists.intro
    refine ⟨fun w' hw' => ?_, ?_⟩
    · subst hw'
      go_simp
      first | done | rfl
    try simp only [Act.put, List.setIfInBounds_toArray, List.set_cons_zero, List.set_cons_succ]
    refine UntH.take (i := 4) (some 30) rfl rfl (by kernel_rfl) (by kernel_rfl) (by kernel_rfl) (by kernel_rfl) (fun _ _ _ _ h => h) (by rfl) rfl ?_
    apply Exists.intro
    refine ⟨fun w' hw' => ?_, ?_⟩
    · subst hw'
      go_simp
      first | done | rfl
    try simp only [Act.put, List.setIfInBounds_toArray, List.set_cons_zero, List.set_cons_succ]
    refine UntH.take (i := 5) (some 31) rfl rfl (by kernel_rfl) (by kernel_rfl) (by kernel_rfl) (by kernel_rfl) (fun _ _ _ _ h => h) (by rfl) rfl ?_
    apply Exists.intro
    refine ⟨fun w' hw' => ?_, ?_⟩
    · subst hw'
      go_simp
      first | done | rfl
    try simp only [Act.put, List.setIfInBounds_toArray, List.set_cons_zero, List.set_cons_succ]
    refine UntH.take (i := 6) (some 25) rfl rfl (by kernel_rfl) (by kernel_rfl) (by kernel_rfl) (by kernel_rfl) (fun _ _ _ _ h => h) (by rfl) rfl ?_
    apply Exists.intro
    refine ⟨fun w' hw' => ?_, ?_⟩
    · subst hw'
      go_simp
      first | done | rfl
    try simp only [Act.put, List.setIfInBounds_toArray, List.set_cons_zero, List.set_cons_succ]
    refine UntH.take (i := 7) (some 32) rfl rfl (by kernel_rfl) (by kernel_rfl) (by kernel_rfl) (by kernel_rfl) (fun _ _ _ _ h => h) (by rfl) rfl ?_
    apply Exists.intro
    refine ⟨fun w' hw' => ?_, ?_⟩
    · subst hw'
      go_simp
      first | done | rfl
    try simp only [Act.put, List.setIfInBounds_toArray, List.set_cons_zero, List.set_cons_succ]
    refine UntH.take (i := 8) (some 33) rfl rfl (by kernel_rfl) (by kernel_rfl) (by kernel_rfl) (by kernel_rfl) (fun _ _ _ _ h => h) (by rfl) rfl ?_
    apply Exists.intro
    refine ⟨fun w' hw' => ?_, ?_⟩
    · subst hw'
      go_simp
      first | done | rfl
    try simp only [Act.put, List.setIfInBounds_toArray, List.set_cons_zero, List.set_cons_succ]
    refine UntH.take (i := 9) (some 8) rfl rfl (by kernel_rfl) (by kernel_rfl) (by kernel_rfl) (by kernel_rfl) (fun _ _ _ _ h => h) (by rfl) rfl ?_
    apply Exists.intro
    refine ⟨fun w' hw' => ?_, ?_⟩
    · subst hw'
      go_simp
      first | done | rfl
    try simp only [Act.put, List.setIfInBounds_toArray, List.set_cons_zero, List.set_cons_succ]
    refine UntH.last (by kernel_rfl) rfl (by kernel_rfl) (by kernel_rfl) (fun K hK => ?_)
    go_simp
    refine hK _ _ ?_
    clear hK K hrun
    cases hs with
    | true =>
      have HR : Hid (PtOk c.S N c.op c.q f g z) := by
        obtain ⟨f', g', r', e, a, b, d, x⟩ := HALL.out _ HHS.out
        have hok := HOK.out
        have h1 := hok.few
        have h2 := hok.m1
        have h3 := HF.out
        have h4 := HG.out
        obtain ⟨a1, a2⟩ := a
        obtain ⟨b1, b2⟩ := b
        unfold hasR at h3 h4
        obtain ⟨e1, e2⟩ := keyP_inj (f := f) (g := g) (f' := f') (g' := g') h3.1 (by omega) h4.1 (by omega) a1 (by omega) b1 (by omega) e
        subst e1 e2
        have e3 := x.symm.trans HZ1.out
        injection e3 with e3
        have e4 := (Lit.int.inj e3).2
        subst e4
        exact d
      have FIN : Hid (PutL c N P G f g w (.returned (.tuple #[.int .i64 z, .int .i64 0])) w3) := ⟨z, 0, N, P, G2, rfl, M3.out, ⟨[], by simp⟩, KW3.out.1, Gw.refl _ _, KW3.out.2, ins_rep HOK.out HR.out.rep, .inl ⟨rfl, HR.out⟩⟩
      clear q0 q1 q2 q3
      go_wp2
      go_ret2
      exact FIN.out
    | false =>
      clear HHS HALL HOWN q2 HZ1
      go_upto_region 7 with fail
      have NB4 : Hid (w3.drew.heap[pb]? = some (.cells #[.int .i64 f, .int .i64 g] 100 (0, 0))) := NB3.out
      have M4 := hide (M3.out.below (Below.refl _ w3).drew)
      have KW4 : Hid (Kept (Fw c P) w w3.drew ∧ Gw w G G2) := ⟨KW3.out.1.drew, KW3.out.2⟩
      clear q0 q1 q3 M3 KW3 NB3
      go_cut [10] (fun v wx => v = .int .i64 (l : Int) ∧ Hid (wx = w3.drew))
      case first =>
        refine wp_unt (S := fun V => V = w3.drew) 15 (by kernel_rfl) ?_
        generalize w3.drew = w4 at *
        obtain ⟨q0, q1⟩ := HC.out w4 NB4.out
        have q3 := M4.out.cells.1
        have L1 := hide (M4.out.ca.level f)
        have L2 := hide (M4.out.ca.level g)
        obtain ⟨x, hx⟩ : ∃ x, lvl c.S N f = x := ⟨_, rfl⟩
        obtain ⟨y, hy⟩ : ∃ y, lvl c.S N g = y := ⟨_, rfl⟩
        rw [hx] at L1
        rw [hy] at L2
        have hxy : min x y = (l : Int) := by rw [← hx, ← hy]; exact HL.out
        clear hx hy
        refine UntH.take (i := 0) (some 36) rfl rfl (by kernel_rfl) (by kernel_rfl) (by kernel_rfl) (by kernel_rfl) (fun _ _ _ _ h => h) (by rfl) rfl ?_
        apply Exists.intro
        refine ⟨fun w' hw' => ?_, ?_⟩
        · subst hw'
          go_simp
          first | done | rfl
        try simp only [Act.put, List.setIfInBounds_toArray, List.set_cons_zero, List.set_cons_succ]
        refine UntH.take (i := 1) (some 37) rfl rfl (by kernel_rfl) (by kernel_rfl) (by kernel_rfl) (by kernel_rfl) (fun _ _ _ _ h => h) (by rfl) rfl ?_
        apply Exists.intro
        refine ⟨fun w' hw' => ?_, ?_⟩
        · subst hw'
          go_simp
          first | done | rfl
        try simp only [Act.put, List.setIfInBounds_toArray, List.set_cons_zero, List.set_cons_succ]
        refine UntH.take (i := 2) (some 38) rfl rfl (by kernel_rfl) (by kernel_rfl) (by kernel_rfl) (by kernel_rfl) (fun _ _ _ _ h => h) (by rfl) rfl ?_
        apply Exists.intro
        refine ⟨fun w' hw' => ?_, ?_⟩
        · subst hw'
          go_simp
          first | done | rfl
        try simp only [Act.put, List.setIfInBounds_toArray, List.set_cons_zero, List.set_cons_succ]
        refine UntH.take (i := 3) (some 39) rfl rfl (by kernel_rfl) (by kernel_rfl) (by kernel_rfl) (by kernel_rfl) (fun _ _ _ _ h => h) (by rfl) rfl ?_
        apply Exists.intro
        refine ⟨fun w' hw' => ?_, ?_⟩
        · subst hw'
          go_simp
          first | done | rfl
        try simp only [Act.put, List.setIfInBounds_toArray, List.set_cons_zero, List.set_cons_succ]
        refine UntH.take (i := 4) (some 40) rfl rfl (by kernel_rfl) (by kernel_rfl) (by kernel_rfl) (by kernel_rfl) (fun _ _ _ _ h => h) (by rfl) rfl ?_
        apply Exists.intro
        refine ⟨fun w' hw' => ?_, ?_⟩
        · subst hw'
          go_simp
          first | done | rfl
        try simp only [Act.put, List.setIfInBounds_toArray, List.set_cons_zero, List.set_cons_succ]
        refine UntH.take (i := 5) (some 41) rfl rfl (by kernel_rfl) (by kernel_rfl) (by kernel_rfl) (by kernel_rfl) (fun _ _ _ _ h => h) (by rfl) rfl ?_
        apply Exists.intro
        refine ⟨fun w' hw' => ?_, ?_⟩
        · subst hw'
          go_simp
          first | done | rfl
        try simp only [Act.put, List.setIfInBounds_toArray, List.set_cons_zero, List.set_cons_succ]
        refine UntH.take (i := 7) (some 43) rfl rfl (by kernel_rfl) (by kernel_rfl) (by kernel_rfl) (by kernel_rfl) (fun _ _ _ _ h => h) (by rfl) rfl ?_
        apply Exists.intro
        refine ⟨fun w' hw' => ?_, ?_⟩
        · subst hw'
          go_simp
          first | done | rfl
        try simp only [Act.put, List.setIfInBounds_toArray, List.set_cons_zero, List.set_cons_succ]
        refine UntH.take (i := 8) (some 44) rfl rfl (by kernel_rfl) (by kernel_rfl) (by kernel_rfl) (by kernel_rfl) (fun _ _ _ _ h => h) (by rfl) rfl ?_
        apply Exists.intro
        refine ⟨fun w' hw' => ?_, ?_⟩
        · subst hw'
          go_simp
          first | done | rfl
        try simp only [Act.put, List.setIfInBounds_toArray, List.set_cons_zero, List.set_cons_succ]
        refine UntH.take (i := 9) (some 45) rfl rfl (by kernel_rfl) (by kernel_rfl) (by kernel_rfl) (by kernel_rfl) (fun _ _ _ _ h => h) (by rfl) rfl ?_
        apply Exists.intro
        refine ⟨fun w' hw' => ?_, ?_⟩
        · subst hw'
          go_simp
          first | done | rfl
        try simp only [Act.put, List.setIfInBounds_toArray, List.set_cons_zero, List.set_cons_succ]
        refine UntH.take (i := 10) (some 46) rfl rfl (by kernel_rfl) (by kernel_rfl) (by kernel_rfl) (by kernel_rfl) (fun _ _ _ _ h => h) (by rfl) rfl ?_
        apply Exists.intro
        refine ⟨fun w' hw' => ?_, ?_⟩
        · subst hw'
          go_simp
          first | done | rfl
        try simp only [Act.put, List.setIfInBounds_toArray, List.set_cons_zero, List.set_cons_succ]
        refine UntH.take (i := 11) (some 47) rfl rfl (by kernel_rfl) (by kernel_rfl) (by kernel_rfl) (by kernel_rfl) (fun _ _ _ _ h => h) (by rfl) rfl ?_
        apply Exists.intro
        refine ⟨fun w' hw' => ?_, ?_⟩
        · subst hw'
          go_simp
          first | done | rfl
        try simp only [Act.put, List.setIfInBounds_toArray, List.set_cons_zero, List.set_cons_succ]
        refine UntH.take (i := 12) (some 48) rfl rfl (by kernel_rfl) (by kernel_rfl) (by kernel_rfl) (by kernel_rfl) (fun _ _ _ _ h => h) (by rfl) rfl ?_
        apply Exists.intro
        refine ⟨fun w' hw' => ?_, ?_⟩
        · subst hw'
          go_simp
          first | done | rfl
        try simp only [Act.put, List.setIfInBounds_toArray, List.set_cons_zero, List.set_cons_succ]
        refine UntH.step (i := 6) (by kernel_rfl) rfl (fun K hK => ?_)
        go_simp
        refine L1.out.mono ?_
        rintro e w5 ⟨rfl, hw5⟩
        have hw6 := hw5.symm
        clear hw5
        subst hw6
        go_simp
        refine hK _ _ rfl ?_
        clear hK K L1
        refine UntH.step (i := 13) (by kernel_rfl) rfl (fun K hK => ?_)
        go_simp
        refine L2.out.mono ?_
        rintro e w5 ⟨rfl, hw5⟩
        have hw6 := hw5.symm
        clear hw5
        subst hw6
        go_simp
        refine hK _ _ rfl ?_
        clear hK K L2 q0 q1 q3
        by_cases hlt : y < x
        · have e2 : y = (l : Int) := by omega
          subst e2
          clear hxy
          refine UntH.step (i := 14) (by kernel_rfl) rfl (fun K hK => ?_)
          go_simp
          refine hK _ _ rfl ?_
          clear hK K
          refine UntH.last (by kernel_rfl) rfl (by kernel_rfl) (by kernel_rfl) (fun K hK => ?_)
          go_simp
          refine hK _ _ ?_
          clear hK K
          go_wp2
          go_meet
          exact ⟨rfl, rfl⟩
        · have e2 : x = (l : Int) := by omega
          subst e2
          clear hxy
          refine UntH.step (i := 14) (by kernel_rfl) rfl (fun K hK => ?_)
          go_simp
          refine hK _ _ rfl ?_
          clear hK K
          refine UntH.last (by kernel_rfl) rfl (by kernel_rfl) (by kernel_rfl) (fun K hK => ?_)
          go_simp
          refine hK _ _ ?_
          clear hK K
          go_wp2
          go_meet
          exact ⟨rfl, rfl⟩
      obtain ⟨rfl, hwc⟩ := hcut
      have hwc2 := hwc.out.symm
      clear hwc
      generalize w3.drew = w4 at *
      subst hwc2
      have HPK := hide (putKids_any HCC.out.hq HQL.out M4.out HF.out HG.out HZ.out hls HL.out (HP.out l hls HL.out))
      obtain ⟨q0, q1⟩ := HC.out w4 NB4.out
      go_upto_region 9 with (go_at_call 81; refine HPK.out.mono ?_; rintro e w5 ⟨v, er, N5, P5, G5, rfl, m5, e5, k5, p5, g5, ok5⟩; have M5 := hide m5; have E5 := hide e5; have K5 := hide k5; have P5' := hide p5; have G5' := hide g5; have OK5 := hide ok5; clear m5 e5 k5 p5 g5 ok5)
      clear HPK q0 q1
      have KW5 : Hid (Kept (Fw c P) w w5 ∧ Gw w P P5 ∧ Gw w G G5) := ⟨KW4.out.1.trans K5.out, fun b hb => (P5'.out b hb).imp id (Nat.le_trans KW4.out.1.size), fun b hb => (G5'.out b hb).elim (fun h1 => KW4.out.2 b h1) (fun h1 => .inr (Nat.le_trans KW4.out.1.size h1))⟩
      have HEX := hide (ins_exp HOK.out hls (phi_hang HCC.out.hq HOK.out HF.out HG.out (l := l) (by have := HL.out; omega) (by have := HL.out; omega)))
      rcases OK5.out with ⟨rfl, ob, ks, cp, rfl, z5, len5, pt5, kf5⟩ | ⟨rfl, rfl, kf5⟩
      · have hpbF : ¬ Fw c P pb := fun hF => by
          rcases hF with h1 | h1 | h1
          · exact PB.out h1
          · obtain ⟨es, cl, h2⟩ := M4.out.res.blk
            rw [← h1, NB4.out] at h2
            cases h2
          · obtain ⟨es, cl, h2⟩ := M4.out.kid.blk
            rw [← h1, NB4.out] at h2
            cases h2
        have NB5 : Hid (w5.heap[pb]? = some (.cells #[.int .i64 f, .int .i64 g] 100 (0, 0))) := (K5.out.block pb (lt_of_block NB4.out) hpbF).trans NB4.out
        have PB5 : Hid (¬ P5 pb) := P5'.out.not (lt_of_block NB4.out) PB.out
        obtain ⟨T5, hT5⟩ := E5.out
        have hf5 : hasR N5 f := by rw [hT5]; exact hasR_app HF.out
        have hg5 : hasR N5 g := by rw [hT5]; exact hasR_app HG.out
        have hm5 : min (lvl c.S N5 f) (lvl c.S N5 g) = (l : Int) := by rw [hT5, lvl_app HF.out, lvl_app HG.out]; exact HL.out
        have pt5' : ∀ i, i < ks.length → PtOk c.S N5 c.op c.q (kidR c.S N5 l f i) (kidR c.S N5 l g i) (ks.getD i 0) := fun i hi => by
          have e1 : kidR c.S N5 l f i = kidR c.S N l f i := by rw [hT5]; exact kidR_app HOK.out hls HF.out
          have e2 : kidR c.S N5 l g i = kidR c.S N l g i := by rw [hT5]; exact kidR_app HOK.out hls HG.out
          rw [e1, e2]
          exact pt5 i hi
        have hok5 := M5.out.ca.ok
        have hksl : ks.length ≤ 256 := by have := hok5.sz.each _ (getD_mem hls); omega
        have MAY := hide (PtOk.may hok5 hls hf5 hg5 hm5 len5 pt5')
        have ND : Hid (∀ r6 N6, MkP c.S c.M N5 (l : Int) ks r6 0 N6 → PtOk c.S N6 c.op c.q f g r6 ∧ ∃ T, N6 = N5 ++ T) := fun r6 N6 hmk => PtOk.node hok5 HCC.out.hq.pnt hls hf5 hg5 hm5 HQL.out len5 pt5' hmk
        have HMK := hide (M5.out.ca.make (l : Int) (some ⟨ob, 0, none⟩) cp ks (by omega) z5.at (by omega))
        have q3 := M5.out.cells.1
        have HF5 := hide hf5
        have HG5 := hide hg5
        have HT5 := hide hT5
        have NOD5 := hide hok5.nod
        have HIN : Hid (∀ r6 er6 N6, MkP c.S c.M N5 (l : Int) ks r6 er6 N6 → ins c.S c.M N (phi c N f g) = (r6, er6, N6)) := fun r6 er6 N6 hmk => by
          rw [HEX.out]
          unfold expF
          rw [kf5, if_pos rfl]
          exact mkF_of NOD5.out hmk
        clear z5 len5 pt5 pt5' kf5 hok5 hm5 hf5 hg5 hT5 hpbF OK5
        go_upto_region 12 with (go_at_call 56; refine HMK.out.mono ?_; rintro e w6 ⟨r6, er6, N6, rfl, mk6, P6, ca6, k6, p6, _⟩; have MK6 := hide mk6; have CA6 := hide ca6.tight; have K6 := hide k6; have P6' := hide p6; clear mk6 ca6 k6 p6)
        clear HMK q3
        have KW6 : Hid (Kept (Fw c P) w w6 ∧ Gw w P P6) := ⟨KW5.out.1.trans_new K6.out (fun b hb h1 => .inl ((KW5.out.2.1 b h1).elim id (fun h2 => by omega))), fun b hb => (P6'.out b hb).elim (fun h1 => KW5.out.2.1 b h1) (fun h1 => .inr (Nat.le_trans KW5.out.1.size h1))⟩
        have her : er6 = 0 ∨ (er6 = 2 ∧ r6 = 0 ∧ N6 = N5) := by
          rcases MK6.out with ⟨h1, _⟩ | ⟨_, _, _, h1, _⟩ | ⟨_, _, _, h1, _⟩ | ⟨_, _, _, _, h1, h2, h3⟩ | ⟨_, _, _, _, _, h1, _⟩
          · exact absurd MAY.out h1
          · exact .inl h1
          · exact .inl h1
          · exact .inr ⟨h2, h1, h3⟩
          · exact .inl h1
        have IN6 := hide (HIN.out _ _ _ MK6.out)
        rcases her with rfl | ⟨rfl, rfl, hN6⟩
        · obtain ⟨ok6, T6, hT6⟩ := ND.out _ _ MK6.out
          subst hT6
          have OK6 := hide ok6
          have M6 := hide (M5.out.step HCC.out.hq.pnt K6.out CA6.out P6'.out)
          have NB6 : Hid (w6.heap[pb]? = some (.cells #[.int .i64 f, .int .i64 g] 100 (0, 0))) := (K6.out.block pb (lt_of_block NB5.out) PB5.out).trans NB5.out
          clear ok6 ND MAY MK6 CA6
          go_upto_region 13 with fail
          have NB7 : Hid (w6.drew.heap[pb]? = some (.cells #[.int .i64 f, .int .i64 g] 100 (0, 0))) := NB6.out
          have M7 := hide (M6.out.below (Below.refl _ w6).drew)
          have KW7 : Hid (Kept (Fw c P) w w6.drew) := KW6.out.1.drew
          refine wp_unt (S := fun V => V = w6.drew) 6 (by kernel_rfl) ?_
          generalize w6.drew = w7 at *
          clear M6 NB6
          obtain ⟨D', hown, hall⟩ := M7.out.res
          have hr6 : 0 ≤ r6 ∧ r6 ≤ 4294967296 := by
            have h1 := M7.out.ca.ok.few
            have h2 := M7.out.ca.ok.m1
            have h3 := OK6.out.has
            unfold hasR at h3
            omega
          obtain ⟨w8, hrun, r1, r2⟩ := hown.store keyed100 Try.underlying105 (by unfold maxLen; omega) HKY.out (plainElem_int Try.underlying3 (wfI r6 hr6.1 hr6.2))
          have M8 := hide (M7.out.putR hall hown.isMap (hasR_app HF5.out) (hasR_app HG5.out) OK6.out r1 r2)
          have K8 := hide (mapTurned_kept r2)
          clear r1 r2 hown hall hr6
          obtain ⟨q0, q1⟩ := HC.out w7 NB7.out
          have q2 := M7.out.cells.2.2.1
          have FIN : Hid (PutL c N P G f g w (.returned (.tuple #[.int .i64 r6, .int .i64 0])) w8) := by
            obtain ⟨T5, hT5⟩ := E5.out
            exact ⟨r6, 0, N5 ++ T6, P6, G5, rfl, M8.out, ⟨T5 ++ T6, by rw [hT5, List.append_assoc]⟩, KW7.out.trans_new K8.out (fun b _ e => .inr (.inl e)), KW6.out.2, KW5.out.2.2, IN6.out, .inl ⟨rfl, OK6.out⟩⟩
          refine UntH.take (i := 0) (some 73) rfl rfl (by kernel_rfl) (by kernel_rfl) (by kernel_rfl) (by kernel_rfl) (fun _ _ _ _ h => h) (by rfl) rfl ?_
          apply Exists.intro
          refine ⟨fun w' hw' => ?_, ?_⟩
          · subst hw'
            go_simp
            first | done | rfl
          try simp only [Act.put, List.setIfInBounds_toArray, List.set_cons_zero, List.set_cons_succ]
          refine UntH.take (i := 1) (some 74) rfl rfl (by kernel_rfl) (by kernel_rfl) (by kernel_rfl) (by kernel_rfl) (fun _ _ _ _ h => h) (by rfl) rfl ?_
          apply Exists.intro
          refine ⟨fun w' hw' => ?_, ?_⟩
          · subst hw'
            go_simp
            first | done | rfl
          try simp only [Act.put, List.setIfInBounds_toArray, List.set_cons_zero, List.set_cons_succ]
          refine UntH.take (i := 2) (some 75) rfl rfl (by kernel_rfl) (by kernel_rfl) (by kernel_rfl) (by kernel_rfl) (fun _ _ _ _ h => h) (by rfl) rfl ?_
          apply Exists.intro
          refine ⟨fun w' hw' => ?_, ?_⟩
          · subst hw'
            go_simp
            first | done | rfl
          try simp only [Act.put, List.setIfInBounds_toArray, List.set_cons_zero, List.set_cons_succ]
          refine UntH.take (i := 3) (some 76) rfl rfl (by kernel_rfl) (by kernel_rfl) (by kernel_rfl) (by kernel_rfl) (fun _ _ _ _ h => h) (by rfl) rfl ?_
          apply Exists.intro
          refine ⟨fun w' hw' => ?_, ?_⟩
          · subst hw'
            go_simp
            first | done | rfl
          try simp only [Act.put, List.setIfInBounds_toArray, List.set_cons_zero, List.set_cons_succ]
          refine UntH.take (i := 4) (some 77) rfl rfl (by kernel_rfl) (by kernel_rfl) (by kernel_rfl) (by kernel_rfl) (fun _ _ _ _ h => h) (by rfl) rfl ?_
          apply Exists.intro
          refine ⟨fun w' hw' => ?_, ?_⟩
          · subst hw'
            go_simp
            first | done | rfl
          try simp only [Act.put, List.setIfInBounds_toArray, List.set_cons_zero, List.set_cons_succ]
          refine UntH.take (i := 5) (some 78) rfl rfl (by kernel_rfl) (by kernel_rfl) (by kernel_rfl) (by kernel_rfl) (fun _ _ _ _ h => h) (by rfl) rfl ?_
          apply Exists.intro
          refine ⟨fun w' hw' => ?_, ?_⟩
          · subst hw'
            go_simp
            first | done | rfl
          try simp only [Act.put, List.setIfInBounds_toArray, List.set_cons_zero, List.set_cons_succ]
          refine UntH.last (by kernel_rfl) rfl (by kernel_rfl) (by kernel_rfl) (fun K hK => ?_)
          go_simp
          refine hK _ _ ?_
          clear hK K hrun q0 q1 q2
          go_wp2
          go_ret2
          exact FIN.out
        · have M6 := hide (M5.out.step (T := []) HCC.out.hq.pnt K6.out (by rw [List.append_nil, ← hN6]; exact CA6.out) P6'.out)
          rw [List.append_nil] at M6
          have FIN : Hid (PutL c N P G f g w (.returned (.tuple #[.int .i64 0, .int .i64 2])) w6) := ⟨0, 2, N5, P6, G5, rfl, M6.out, E5.out, KW6.out.1, KW6.out.2, KW5.out.2.2, by rw [← hN6]; exact IN6.out, .inr ⟨rfl, rfl⟩⟩
          clear hN6 MK6 CA6 M6
          go_wp2
          go_ret2
          exact FIN.out
      · have FIN : Hid (PutL c N P G f g w (.returned (.tuple #[.int .i64 0, .int .i64 2])) w5) := ⟨0, 2, N5, P5, G5, rfl, M5.out, E5.out, KW5.out.1, KW5.out.2.1, KW5.out.2.2, by rw [HEX.out]; unfold expF; rw [kf5, if_neg (show ¬ (2 : Int) = 0 by decide)], .inr ⟨rfl, rfl⟩⟩
        clear kf5
        go_wp2
        go_ret2
        exact FIN.out
theorem put_any {cl : Nat} {caps : List Value} (hc : KnC c cl caps) : ∀ (d : Nat) (w : World) (N : List Nd) (P G : Nat → Prop) (f g : Int), MS w c N P G → hasR N f → hasR N g → (c.Z → g = 0) → (c.S.length : Int) ≤ min (lvl c.S N f) (lvl c.S N g) + d → Calls Try.prog 79 #[.pointer (some ⟨c.mm, 0, none⟩), .agg #[.int .i64 f, .int .i64 g]] w fun e w' => PutL c N P G f g w e w' := by
  intro d
  induction d with
  | zero => intro w N P G f g h hf hg hz hd; exact put_step hc h hf hg hz (fun l hl hm => by omega)
  | succ d ih => intro w N P G f g h hf hg hz hd; exact put_step hc h hf hg hz (fun l hl hm w' N' P' G' f' g' h' hf' hg' hz' h1 h2 => ih w' N' P' G' f' g' h' hf' hg' hz' (by omega))
end
end Go.Proofs.Ytaafeflbanoncaa
