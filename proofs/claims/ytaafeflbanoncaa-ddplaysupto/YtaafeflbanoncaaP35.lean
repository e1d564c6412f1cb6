/-
  The document's Restrict by its contract. No condition.
-/
import Derived.Test.YtaafeflbanoncaaP34
import Derived.Test.YtaafeflbanoncaaP22
import Derived.Test.YtaafeflbanoncaaP32
namespace Go.Proofs.Ytaafeflbanoncaa
open Go.RowKit Go.Lib Go.Maps

section
variable {w : World} {x : Nat} {S : List Int} {M : Int} {N : List Nd} {Q : Nat → Prop} {f : Int} {l k : Nat}
theorem DC.starts {n : Nat} {w1 w2 : World} (h : RA w x S M N Q) (hl : l < S.length) (hk : (k : Int) < S.getD l 0) (hn : n = N.length + 2) (h1 : w1 = w.alloc (.cells (zC (List.replicate n 0)).toArray 3)) (h2 : w2 = w1.alloc (.cells #[.pointer (some ⟨x, 0, none⟩), .int .i64 (l : Int), .int .i64 (k : Int), .slice (some ⟨w.heap.size, 0, none⟩) n n, .int .i64 0] 119)) :
    DC w2 ⟨x, S, M, w.heap.size + 1, w.heap.size, n, l, k⟩ N Q (List.replicate n 0) 0 ∧ Below w.heap.size w w2 := by
  have y1 : Below w.heap.size w w1 := by rw [h1]; exact al (Below.refl _ _) _
  have y2 : Below w1.heap.size w1 w2 := by rw [h2]; exact al (Below.refl _ _) _
  have b1 : RwZ w1 w.heap.size (List.replicate n 0) := by rw [h1]; exact RwZ.made w _
  have y12 : Below w.heap.size w w2 := bt y1 y2 (Nat.le_refl _)
  refine ⟨⟨h.below y12, ?_, b1.below y2, List.length_replicate, fun hq => ?_, fun hq => ?_, ?_, hl, hk, fun _ i hi => .inl ?_⟩, y12⟩
  · unfold UBk
    have e : w1.heap.size = w.heap.size + 1 := by rw [h1]; simp
    rw [h2, ← e]
    exact heap_alloc_new w1 _
  · have h3 : w.heap.size + 1 < w.heap.size := h.plt hq
    omega
  · have h3 : w.heap.size < w.heap.size := h.plt hq
    omega
  · simp only
    omega
  · rw [List.getD_eq_getElem?_getD, List.getElem?_replicate]
    split <;> rfl
set_option maxRecDepth 100000 in
set_option maxHeartbeats 2000000 in
theorem restrictD_ok (h : RA w x S M N Q) (hf : hasR N f) (hl : l < S.length) (hk : (k : Int) < S.getD l 0) :
    Calls Try.prog 43 #[.pointer (some ⟨x, 0, none⟩), .int .i64 f, .int .i64 (l : Int), .int .i64 (k : Int)] w fun e w' => OdL x S M N Q (fun p => sayR N (upd p l k) f) w e w' := by
  have hok := h.ok
  have hH1 := h.has f
  rw [(hasN_iff N rfl).2 hf] at hH1
  have H1 := hide hH1
  have H3 := hide h.len
  have hfew : N.length ≤ 8192 := by have := hok.few; have := hok.m1; omega
  have hmk := make_ints (N.length + 2) ((N.length : Int) + 2) (by omega) (by omega)
  obtain ⟨m2, y2⟩ := DC.starts h hl hk rfl rfl rfl
  have M2 := hide m2
  have Y2 := hide y2
  have HOK := hide hok
  have HF := hide hf
  have HK := hide hk
  have HPL : Hid (∀ k, Q k → k < w.heap.size) := fun k hk => h.plt hk
  obtain ⟨sb, sc, s0, _, s2, _⟩ := h.fields
  have qs := s2.cell hl
  obtain ⟨s, hs⟩ : ∃ s, S.getD l 0 = s := ⟨_, rfl⟩
  rw [hs] at qs
  have hl1 : ¬ (S.length : Int) ≤ (l : Int) := by omega
  have hl3 : (l : Int) < (S.length : Int) := by omega
  have hl2 : ¬ (l : Int) < 0 := by omega
  have hk2 : ¬ (k : Int) < 0 := by omega
  have hk1 : ¬ s ≤ (k : Int) := by omega
  have hw : IntKind.i64.wrap ((N.length : Int) + 2) = (N.length : Int) + 2 := by simp [IntKind.wrap, IntKind.bits, IntKind.signed]; omega
  clear h hH1 m2 y2 hok hf hk s2 hs
  go_enter Try.func43, Try.ntmps43
  go_upto_region 2 with (go_at_call 52; refine H1.out.mono ?_; rintro e w1 ⟨rfl, hw1⟩; have hw2 := hw1.symm; clear hw1; subst hw2)
  go_upto_region 5 with (go_at_call 10; refine H3.out.mono ?_; rintro e w1 ⟨rfl, hw1⟩; have hw2 := hw1.symm; clear hw1; subst hw2)
  clear H1 H3 s0 qs hl1 hl2 hl3 hk1 hk2
  go_upto_region 6 with fail
  clear hmk hw
  generalize w.alloc (.cells (zC (List.replicate (N.length + 2) 0)).toArray 3) = w1 at *
  generalize w1.alloc (.cells #[.pointer (some ⟨x, 0, none⟩), .int .i64 (l : Int), .int .i64 (k : Int), .slice (some ⟨w.heap.size, 0, none⟩) (N.length + 2) (N.length + 2), .int .i64 0] 119) = w2 at *
  have HAP := hide (of_any S.length w2 N Q (List.replicate (N.length + 2) 0) f M2.out ⟨HF.out.1, by have := HF.out.2; simp only; omega⟩ (by have := HOK.out.lvl_le HF.out; simp only; omega))
  clear M2
  go_upto_region 7 with (go_at_call 75; refine HAP.out.mono ?_; rintro e w3 ⟨r, er, N3, Q3, D3, rfl, m3, e3, k3, p3, in3, ok3⟩; have M3 := hide m3; have E3 := hide e3; have K3 := hide k3; have P3 := hide p3; have IN3 := hide in3; have OK3 := hide ok3; clear m3 e3 k3 p3 in3 ok3)
  clear HAP
  have c3 := M3.out.blk.cells.2.2.2.2
  have KQ : Hid (Kept Q w w3 ∧ Gw w Q Q3) := by
    refine ⟨(Kept.of_below Y2.out).trans_new K3.out (fun b hb hF => ?_), fun b hb => (P3.out b hb).imp id (Nat.le_trans Y2.out.size)⟩
    rcases hF with h1 | h1 | h1
    · exact h1
    · have h2 : b = w.heap.size + 1 := h1
      omega
    · have h2 : b = w.heap.size := h1
      omega
  have HHG : Hid (Hang S (fun p => sayR N (upd p l k) f) 0) := (phi_hang (c := cfU ⟨x, S, M, w.heap.size + 1, w.heap.size, N.length + 2, l, k⟩) (cfU_q HK.out) HOK.out HF.out (g := 0) ⟨by omega, by omega⟩ (l := 0) (HOK.out.lvl_le HF.out).1 (by rw [lvl_low (by omega)]; omega))
  rcases OK3.out with ⟨rfl, pt⟩ | ⟨rfl, rfl⟩
  · have FIN : Hid (OdL x S M N Q (fun p => sayR N (upd p l k) f) w (.returned (.tuple #[.int .i64 r, .int .i64 0])) w3) := by
      refine ⟨r, 0, N3, Q3, rfl, M3.out.ra, KQ.out.1, KQ.out.2, HHG.out, .inl ⟨rfl, E3.out, ⟨pt.has, fun p hp => ?_⟩, IN3.out⟩⟩
      obtain ⟨T, hT⟩ := E3.out
      have := pt.say p hp
      rw [this, hT, sayR_app HOK.out (hp.upd HK.out) HF.out]
    clear pt
    go_wp2
    go_ret2
    exact FIN.out
  · obtain ⟨T, hT⟩ := E3.out
    have HBK := hide (M3.out.ra.back (N.length : Int))
    have BK : Hid (∀ e w', BkL N3 (N.length : Int) w3 e w' (fun N' V => RA V x S M N' Q3) Q3 → e = .returned (.int .i64 0) ∧ RA w' x S M N Q3 ∧ Kept Q3 w3 w') := fun e w' hb => by
      rcases hb with ⟨_, _, h3, h4, h5⟩ | ⟨h1, _⟩
      · refine ⟨h3, ?_, h5⟩
        rw [hT, Int.toNat_natCast, List.take_left] at h4
        exact h4
      · exact absurd ⟨by omega, by rw [hT, List.length_append]; omega⟩ h1
    clear hT
    go_upto_region 9 with (go_at_call 19; refine HBK.out.mono ?_; rintro e w4 hb; obtain ⟨rfl, ra4, k4⟩ := BK.out e w4 hb; have RA4 := hide ra4; have K4 := hide k4; clear hb ra4 k4)
    clear HBK BK c3
    have c4 : w4.drew.cell? ⟨w.heap.size + 1, 4, none⟩ = some (.int .i64 2) := by
      have hb := (K4.out.block _ (lt_of_block M3.out.blk) M3.out.nm).trans M3.out.blk
      exact (cell_of_row w4 (w.heap.size + 1) 4 _ _ _ hb).trans rfl
    have yd : Below w4.heap.size w4 w4.drew := (Below.refl _ _).drew
    have FIN : Hid (OdL x S M N Q (fun p => sayR N (upd p l k) f) w (.returned (.tuple #[.int .i64 0, .int .i64 2])) w4.drew) := ⟨0, 2, N, Q3, rfl, RA4.out.below yd, (KQ.out.1.trans_new K4.out (fun b hb h1 => (KQ.out.2 b h1).elim id (fun h2 => by omega))).drew, KQ.out.2, HHG.out, .inr ⟨rfl, rfl, rfl, _, IN3.out⟩⟩
    clear yd
    refine wp_unt (S := fun V => V = w4.drew) 5 (by kernel_rfl) ?_
    generalize w4.drew = w5 at *
    refine UntH.take (i := 0) (some 68) rfl rfl (by kernel_rfl) (by kernel_rfl) (by kernel_rfl) (by kernel_rfl) (fun _ _ _ _ h => h) (by rfl) rfl ?_
    apply Exists.intro
    refine ⟨fun w' hw' => ?_, ?_⟩
    · subst hw'
      go_simp
      first | done | rfl
    try simp only [Act.put, List.setIfInBounds_toArray, List.set_cons_zero, List.set_cons_succ]
    refine UntH.take (i := 1) (some 69) rfl rfl (by kernel_rfl) (by kernel_rfl) (by kernel_rfl) (by kernel_rfl) (fun _ _ _ _ h => h) (by rfl) rfl ?_
    apply Exists.intro
    refine ⟨fun w' hw' => ?_, ?_⟩
    · subst hw'
      go_simp
      first | done | rfl
    try simp only [Act.put, List.setIfInBounds_toArray, List.set_cons_zero, List.set_cons_succ]
    refine UntH.take (i := 2) (some 70) rfl rfl (by kernel_rfl) (by kernel_rfl) (by kernel_rfl) (by kernel_rfl) (fun _ _ _ _ h => h) (by rfl) rfl ?_
    apply Exists.intro
    refine ⟨fun w' hw' => ?_, ?_⟩
    · subst hw'
      go_simp
      first | done | rfl
    try simp only [Act.put, List.setIfInBounds_toArray, List.set_cons_zero, List.set_cons_succ]
    refine UntH.take (i := 3) (some 71) rfl rfl (by kernel_rfl) (by kernel_rfl) (by kernel_rfl) (by kernel_rfl) (fun _ _ _ _ h => h) (by rfl) rfl ?_
    apply Exists.intro
    refine ⟨fun w' hw' => ?_, ?_⟩
    · subst hw'
      go_simp
      first | done | rfl
    try simp only [Act.put, List.setIfInBounds_toArray, List.set_cons_zero, List.set_cons_succ]
    refine UntH.take (i := 4) (some 8) rfl rfl (by kernel_rfl) (by kernel_rfl) (by kernel_rfl) (by kernel_rfl) (fun _ _ _ _ h => h) (by rfl) rfl ?_
    apply Exists.intro
    refine ⟨fun w' hw' => ?_, ?_⟩
    · subst hw'
      go_simp
      first | done | rfl
    try simp only [Act.put, List.setIfInBounds_toArray, List.set_cons_zero, List.set_cons_succ]
    refine UntH.last (by kernel_rfl) rfl (by kernel_rfl) (by kernel_rfl) (fun K hK => ?_)
    go_simp
    refine hK _ _ ?_
    clear hK K c4
    go_wp2
    go_ret2
    exact FIN.out
end
end Go.Proofs.Ytaafeflbanoncaa
/-
  Both arenas side by side: what an operation answers, and what it leaves in each. No condition.
-/
namespace Go.Proofs.Ytaafeflbanoncaa
open Go.RowKit Go.Lib Go.Maps

/-- What an operation answers, and what there is then. -/
noncomputable def ansG (S : List Int) (M : Int) (N : List Nd) (φ : Phi) : Int × Int × List Nd := if (ins S M N φ).2.1 = 0 then ins S M N φ else (0, 2, N)
def GOk (N : List Nd) (G : Int × Int × List Nd) : Prop := (G.2.1 = 0 ∧ Ex N G.2.2 ∧ hasR G.2.2 G.1) ∨ (G.2.1 = 2 ∧ G.1 = 0 ∧ G.2.2 = N) ∨ (G.2.1 = 1 ∧ G.1 = 0 ∧ G.2.2 = N)
/-- What it leaves in the program's arena, and in the document's. -/
def CQ (a : Nat) (S : List Int) (M : Int) (N : List Nd) (P : Nat → Prop) (G : Int × Int × List Nd) (w : World) (e : Ending) (w' : World) : Prop :=
  ∃ P', e = .returned (.tuple #[.int .i64 G.1, .int .i64 G.2.1]) ∧ CA w' a S M G.2.2 8192 P' ∧ Kept P w w' ∧ Gw w P P' ∧ GOk N G
def DQ (x : Nat) (S : List Int) (M : Int) (Q : Nat → Prop) (G : Int × Int × List Nd) (w : World) (e : Ending) (w' : World) : Prop :=
  ∃ Q', e = .returned (.tuple #[.int .i64 G.1, .int .i64 G.2.1]) ∧ RA w' x S M G.2.2 Q' ∧ Kept Q w w' ∧ Gw w Q Q'
/-- Both. -/
structure SD (w : World) (a x : Nat) (S : List Int) (M : Int) (N N2 : List Nd) (P Q : Nat → Prop) : Prop where
  ca : CA w a S M N 8192 P
  ra : RA w x S M N2 Q
  dis : ∀ b, P b → ¬ Q b
/-- What a step leaves that makes something in both. -/
def MzL (a x : Nat) (S : List Int) (M : Int) (N : List Nd) (P Q : Nat → Prop) (G : Int × Int × List Nd) (w : World) (e : Ending) (w' : World) : Prop :=
  ∃ P' Q', e = .returned (.tuple #[.int .i64 G.1, .int .i64 G.2.1, .int .i64 G.1, .int .i64 G.2.1]) ∧ SD w' a x S M G.2.2 G.2.2 P' Q' ∧ Kept (fun b => P b ∨ Q b) w w' ∧ Gw w P P' ∧ Gw w Q Q' ∧ GOk N G
section
variable {w w' w1 w2 : World} {a x : Nat} {S : List Int} {M : Int} {N N1 N2 : List Nd} {P Q P' : Nat → Prop} {G : Int × Int × List Nd} {e : Ending} {φ : Phi} {f g : Int} {l k : Nat}
theorem OpL.cq (h : OpL a S M N P φ w e w') : CQ a S M N P (ansG S M N φ) w e w' := by
  obtain ⟨r, er, N', P', rfl, ca, kp, gw, _, res⟩ := h
  rcases res with ⟨rfl, ex, rep, hi⟩ | ⟨rfl, rfl, rfl, N1, hi⟩
  · have e : ansG S M N φ = (r, 0, N') := by unfold ansG; rw [hi]; rfl
    rw [e]
    exact ⟨P', rfl, ca, kp, gw, .inl ⟨rfl, ex, rep.1⟩⟩
  · have e : ansG S M N' φ = (0, 2, N') := by unfold ansG; rw [hi]; rfl
    rw [e]
    exact ⟨P', rfl, ca, kp, gw, .inr (.inl ⟨rfl, rfl, rfl⟩)⟩
theorem OdL.dq (h : OdL x S M N Q φ w e w') : DQ x S M Q (ansG S M N φ) w e w' := by
  obtain ⟨r, er, N', Q', rfl, ra, kp, gw, _, res⟩ := h
  rcases res with ⟨rfl, ex, rep, hi⟩ | ⟨rfl, rfl, rfl, N1, hi⟩
  · have e : ansG S M N φ = (r, 0, N') := by unfold ansG; rw [hi]; rfl
    rw [e]
    exact ⟨Q', rfl, ra, kp, gw⟩
  · have e : ansG S M N' φ = (0, 2, N') := by unfold ansG; rw [hi]; rfl
    rw [e]
    exact ⟨Q', rfl, ra, kp, gw⟩
theorem SD.below (h : SD w a x S M N N2 P Q) (y : Below w.heap.size w w') : SD w' a x S M N N2 P Q := ⟨h.ca.below y, h.ra.below y, h.dis⟩
theorem SD.code (h : SD w a x S M N N2 P Q) (c : CQ a S M N P G w e w1) : ∃ P', e = .returned (.tuple #[.int .i64 G.1, .int .i64 G.2.1]) ∧ SD w1 a x S M G.2.2 N2 P' Q ∧ Kept P w w1 ∧ Gw w P P' ∧ GOk N G := by
  obtain ⟨P', e1, ca, kp, gw, ok⟩ := c
  exact ⟨P', e1, ⟨ca, h.ra.kept kp (fun b hb hp => h.dis b hp hb), fun b hb hq => (gw b hb).elim (fun h1 => h.dis b h1 hq) (fun h1 => by have := h.ra.plt hq; omega)⟩, kp, gw, ok⟩
theorem SD.doc (h : SD w a x S M N N2 P Q) (c : DQ x S M Q G w e w1) : ∃ Q', e = .returned (.tuple #[.int .i64 G.1, .int .i64 G.2.1]) ∧ SD w1 a x S M N G.2.2 P Q' ∧ Kept Q w w1 ∧ Gw w Q Q' := by
  obtain ⟨Q', e1, ra, kp, gw⟩ := c
  exact ⟨Q', e1, ⟨h.ca.kept kp (fun b hb hq => h.dis b hb hq), ra, fun b hb hq => (gw b hq).elim (fun h1 => h.dis b hb h1) (fun h1 => by have := h.ca.plt hb; omega)⟩, kp, gw⟩
/-- Both calls of a step, one behind the other. -/
theorem MzL.of {w0 : World} {Q' : Nat → Prop} (y : Below w0.heap.size w0 w) (k1 : Kept P w w1) (g1 : Gw w P P') (k2 : Kept Q w1 w2) (g2 : Gw w1 Q Q') (h : SD w2 a x S M G.2.2 G.2.2 P' Q') (ok : GOk N G) : MzL a x S M N P Q G w0 (.returned (.tuple #[.int .i64 G.1, .int .i64 G.2.1, .int .i64 G.1, .int .i64 G.2.1])) w2 :=
  ⟨P', Q', rfl, h, ((Kept.of_below y).trans (k1.mono (fun _ h => .inl h))).trans (k2.mono (fun _ h => .inr h)), fun b hb => (g1 b hb).imp id (Nat.le_trans y.size), fun b hb => (g2 b hb).imp id (Nat.le_trans (Nat.le_trans y.size k1.size)), ok⟩
/-- What each operation answers where its arguments are there. -/
noncomputable def gAnd (S : List Int) (M : Int) (N : List Nd) (f g : Int) := ansG S M N (fun p => sayR N p f && sayR N p g)
noncomputable def gOr (S : List Int) (M : Int) (N : List Nd) (f g : Int) := ansG S M N (fun p => sayR N p f || sayR N p g)
noncomputable def gXor (S : List Int) (M : Int) (N : List Nd) (f g : Int) := ansG S M N (fun p => sayR N p f != sayR N p g)
noncomputable def gNot (S : List Int) (M : Int) (N : List Nd) (f : Int) := ansG S M N (fun p => !sayR N p f)
noncomputable def gCut (S : List Int) (M : Int) (N : List Nd) (f : Int) (l k : Nat) := ansG S M N (fun p => sayR N (upd p l k) f)
noncomputable def gSet (S : List Int) (M : Int) (N : List Nd) (l : Nat) (B : List Bool) := ansG S M N (fun p => B.getD (p l) false)
theorem and_c {m : Nat} (h : CA w a S M N m P) (hf : hasR N f) (hg : hasR N g) : Calls Try.prog 24 #[.pointer (some ⟨a, 0, none⟩), .int .i64 f, .int .i64 g] w fun e w' => CQ a S M N P (gAnd S M N f g) w e w' := (and_ok h hf hg).mono fun _ _ h => OpL.cq h
theorem or_c {m : Nat} (h : CA w a S M N m P) (hf : hasR N f) (hg : hasR N g) : Calls Try.prog 39 #[.pointer (some ⟨a, 0, none⟩), .int .i64 f, .int .i64 g] w fun e w' => CQ a S M N P (gOr S M N f g) w e w' := (or_ok h hf hg).mono fun _ _ h => OpL.cq h
theorem xor_c {m : Nat} (h : CA w a S M N m P) (hf : hasR N f) (hg : hasR N g) : Calls Try.prog 41 #[.pointer (some ⟨a, 0, none⟩), .int .i64 f, .int .i64 g] w fun e w' => CQ a S M N P (gXor S M N f g) w e w' := (xor_ok h hf hg).mono fun _ _ h => OpL.cq h
theorem not_c {m : Nat} (h : CA w a S M N m P) (hf : hasR N f) : Calls Try.prog 25 #[.pointer (some ⟨a, 0, none⟩), .int .i64 f] w fun e w' => CQ a S M N P (gNot S M N f) w e w' := (not_ok h hf).mono fun _ _ h => OpL.cq h
theorem cut_c {m : Nat} (h : CA w a S M N m P) (hf : hasR N f) (hl : l < S.length) (hk : (k : Int) < S.getD l 0) : Calls Try.prog 26 #[.pointer (some ⟨a, 0, none⟩), .int .i64 f, .int .i64 (l : Int), .int .i64 (k : Int)] w fun e w' => CQ a S M N P (gCut S M N f l k) w e w' := (restrict_ok h hf hl hk).mono fun _ _ h => OpL.cq h
theorem set_c {B : List Bool} {ao : Option Addr} {cap : Nat} (h : CA w a S M N 8192 P) (hl : l < S.length) (hB : (B.length : Int) = S.getD l 0) (hat : BAt w ao B) : Calls Try.prog 23 #[.pointer (some ⟨a, 0, none⟩), .int .i64 (l : Int), .slice ao B.length cap] w fun e w' => CQ a S M N P (gSet S M N l B) w e w' := (set_ok h (Nat.le_refl _) hl hB hat).mono fun _ _ h => OpL.cq h
theorem and_d (h : RA w x S M N Q) (hf : hasR N f) (hg : hasR N g) : Calls Try.prog 38 #[.pointer (some ⟨x, 0, none⟩), .int .i64 f, .int .i64 g] w fun e w' => DQ x S M Q (gAnd S M N f g) w e w' := (andD_ok h hf hg).mono fun _ _ h => OdL.dq h
theorem or_d (h : RA w x S M N Q) (hf : hasR N f) (hg : hasR N g) : Calls Try.prog 40 #[.pointer (some ⟨x, 0, none⟩), .int .i64 f, .int .i64 g] w fun e w' => DQ x S M Q (gOr S M N f g) w e w' := (orD_ok h hf hg).mono fun _ _ h => OdL.dq h
theorem xor_d (h : RA w x S M N Q) (hf : hasR N f) (hg : hasR N g) : Calls Try.prog 42 #[.pointer (some ⟨x, 0, none⟩), .int .i64 f, .int .i64 g] w fun e w' => DQ x S M Q (gXor S M N f g) w e w' := (xorD_ok h hf hg).mono fun _ _ h => OdL.dq h
theorem not_d (h : RA w x S M N Q) (hf : hasR N f) : Calls Try.prog 37 #[.pointer (some ⟨x, 0, none⟩), .int .i64 f] w fun e w' => DQ x S M Q (gNot S M N f) w e w' := (notD_ok h hf).mono fun _ _ h => by
  have := OdL.dq h
  have e : (fun p => sayR N p f != sayR N p 1) = fun p => !sayR N p f := by
    funext p
    rw [sayR_one]
    cases sayR N p f <;> rfl
  rw [e] at this
  exact this
theorem cut_d (h : RA w x S M N Q) (hf : hasR N f) (hl : l < S.length) (hk : (k : Int) < S.getD l 0) : Calls Try.prog 43 #[.pointer (some ⟨x, 0, none⟩), .int .i64 f, .int .i64 (l : Int), .int .i64 (k : Int)] w fun e w' => DQ x S M Q (gCut S M N f l k) w e w' := (restrictD_ok h hf hl hk).mono fun _ _ h => OdL.dq h
theorem set_d {B : List Bool} {ao : Option Addr} {cap : Nat} (h : RA w x S M N Q) (hl : l < S.length) (hB : (B.length : Int) = S.getD l 0) (hat : BAt w ao B) : Calls Try.prog 44 #[.pointer (some ⟨x, 0, none⟩), .int .i64 (l : Int), .slice ao B.length cap] w fun e w' => DQ x S M Q (gSet S M N l B) w e w' := (setD_ok h hl hB hat).mono fun _ _ h => OdL.dq h
end
end Go.Proofs.Ytaafeflbanoncaa
