/-
  What SpanParts gathers: lists that were lent; lists of parts that came out, and that were wanted. No condition.
-/
import Derived.Test.YtljagefcgijmlaaApS
import Derived.Test.YtljagefcgijmlaaOwnedN
namespace Go.Proofs.Ytljagefcgijmlaa
open Go.RowKit Go.Lib

/-- The j-th lent list, and the view of it that is handed in. -/
def lv (S : List (List Spn)) (g : Nat → Nat) (j : Nat) : Value := .slice (some ⟨g j, 0, none⟩) ((S.getD j []).length + 4) ((S.getD j []).length + 4)
def iv (S : List (List Spn)) (g : Nat → Nat) (j : Nat) : Value := .slice (some ⟨g j, 0, none⟩) (S.getD j []).length ((S.getD j []).length + 4)
structure LnS (W0 : World) (S : List (List Spn)) (g : Nat → Nat) (kh ki : Nat) (h inn : Value) (w : World) : Prop where
  hrow : w.ownsRow W0.heap.size 22 1 h kh ((List.range kh).map (lv S g))
  irow : w.ownsRow W0.heap.size 22 1 inn ki ((List.range ki).map (iv S g))
  each : ∀ j, j < kh → OwnS w W0.heap.size (lv S g j) (lentL (S.getD j []))
  apart : ∀ i j, i < kh → j < kh → i ≠ j → g i ≠ g j
  ne : ∀ x, h.ownBlock = some x → ¬ inn.ownBlock = some x
  below : Below W0.heap.size W0 w
variable {W0 : World} {S : List (List Spn)} {g : Nat → Nat} {kh ki : Nat} {h inn : Value} {w w' : World}
theorem LnS.nil (W0 : World) (S : List (List Spn)) (g : Nat → Nat) : LnS W0 S g 0 0 (.slice none 0 0) (.slice none 0 0) W0 :=
  ⟨World.ownsRow_nil W0 _ 22 1, World.ownsRow_nil W0 _ 22 1, fun j hj => absurd hj (by omega), fun i j hi => absurd hi (by omega), fun x hx => (by cases hx), Below.refl _ _⟩
theorem LnS.next (s : LnS W0 S g kh ki h inn w) (x : Below w.heap.size w w') : LnS W0 S g kh ki h inn w' :=
  ⟨own_below s.hrow x, own_below s.irow x, fun j hj => own_below (s.each j hj) x, s.apart, s.ne, s.below.trans (x.mono s.below.size)⟩
theorem LnS.lt (s : LnS W0 S g kh ki h inn w) {j : Nat} (hj : j < kh) : W0.heap.size ≤ g j ∧ g j < w.heap.size := World.ownsRow.lt (s.each j hj) (g j) rfl
theorem range_congr {f f' : Nat → Value} {n : Nat} (e : ∀ j, j < n → f' j = f j) : (List.range n).map f' = (List.range n).map f := by
  refine List.map_congr_left fun j hj => e j (List.mem_range.1 hj)
theorem range_snoc (f : Nat → Value) (n : Nat) : (List.range (n + 1)).map f = (List.range n).map f ++ [f n] := by rw [List.range_succ, List.map_append]; rfl
theorem LnS.congr {g' : Nat → Nat} (s : LnS W0 S g kh ki h inn w) (hki : ki ≤ kh) (e : ∀ j, j < kh → g' j = g j) : LnS W0 S g' kh ki h inn w :=
  ⟨by rw [range_congr (f := lv S g) (fun j hj => by unfold lv; rw [e j hj])]; exact s.hrow, by rw [range_congr (f := iv S g) (fun j hj => by unfold iv; rw [e j (by omega)])]; exact s.irow,
   fun j hj => by have := s.each j hj; unfold lv at *; rw [e j hj]; exact this, fun i j hi hj hne => by rw [e i hi, e j hj]; exact s.apart i j hi hj hne, s.ne, s.below⟩
theorem LnS.pushH (s : LnS W0 S g kh ki h inn w) {h' : Value} (hv : OwnS w W0.heap.size (lv S g kh) (lentL (S.getD kh []))) (hnew : ∀ j, j < kh → g j ≠ g kh)
    (h1 : w'.ownsRow W0.heap.size 22 1 h' (kh + 1) ((List.range kh).map (lv S g) ++ [lv S g kh])) (h2 : AppAt w w' h h') : LnS W0 S g (kh + 1) ki h' inn w' := by
  obtain ⟨F, hk, hF⟩ := app_kept h2
  refine ⟨by rw [range_snoc]; exact h1, own_kept s.irow hk (fun k h3 h4 => s.ne k (hF k h4) h3), fun j hj => ?_, fun i j hi hj hne => ?_, app_ne h2 s.irow s.ne, below_kept (Nat.le_refl _) s.below (appKept h2 s.hrow)⟩
  · have : OwnS w W0.heap.size (lv S g j) (lentL (S.getD j [])) := by
      by_cases hjk : j < kh
      · exact s.each j hjk
      · rw [show j = kh by omega]; exact hv
    exact this.kept hk (fun k h3 h4 => own_ne s.hrow this (by decide) k (hF k h4) h3)
  · by_cases hi' : i < kh <;> by_cases hj' : j < kh
    · exact s.apart i j hi' hj' hne
    · rw [show j = kh by omega]; exact hnew i hi'
    · rw [show i = kh by omega]; exact fun e => hnew j hj' e.symm
    · omega
theorem LnS.pushI (s : LnS W0 S g kh ki h inn w) {inn' : Value}
    (h1 : w'.ownsRow W0.heap.size 22 1 inn' (ki + 1) ((List.range ki).map (iv S g) ++ [iv S g ki])) (h2 : AppAt w w' inn inn') : LnS W0 S g kh (ki + 1) h inn' w' := by
  obtain ⟨F, hk, hF⟩ := app_kept h2
  exact ⟨own_kept s.hrow hk (fun k h3 h4 => s.ne k h3 (hF k h4)), by rw [range_snoc]; exact h1,
    fun j hj => own_kept (s.each j hj) hk (fun k h3 h4 => own_ne s.irow (s.each j hj) (by decide) k (hF k h4) h3), s.apart,
    fun k h3 h4 => app_ne h2 s.hrow (fun k h5 h6 => s.ne k h6 h5) k h4 h3, below_kept (Nat.le_refl _) s.below (appKept h2 s.irow)⟩
/-- The row's cells. -/
theorem row_cell {base n : Nat} {T : TypeId} {v : Value} {f : Nat → Value} (r : w.ownsRow base T 1 v n ((List.range n).map f)) {b cap : Nat} (hv : v = .slice (some ⟨b, 0, none⟩) n cap) {i : Nat} (hi : i < n) : w.cell? ⟨b, i, none⟩ = some (f i) := by
  subst hv
  rw [World.ownsRow.cellAt r i (by omega)]
  simp [hi]
theorem own_cap {base n size : Nat} {T : TypeId} {v : Value} {xs : List Value} (r : w.ownsRow base T size v n xs) : ∃ ao cap, v = .slice ao n cap ∧ n ≤ cap ∧ (0 < n → ∃ b, ao = some ⟨b, 0, none⟩ ∧ base ≤ b ∧ b < w.heap.size) := by
  rcases r.2 with ⟨rfl, hn⟩ | ⟨b, cap, cur, rfl, hb, hg, hnc, _⟩
  · exact ⟨none, 0, by rw [hn], by omega, fun h => by omega⟩
  · exact ⟨_, cap, rfl, hnc, fun _ => ⟨b, rfl, hb, lt_of_block hg⟩⟩
theorem LnS.ssAt (s : LnS W0 S g S.length S.length h inn w) {ai : Option Addr} {ci : Nat} (hv : inn = .slice ai S.length ci) : SsAt w.heap.size w ai S := by
  obtain ⟨ao, cap, e, _, hp⟩ := own_cap s.irow
  rw [hv] at e
  injection e with e1 _ e2
  subst e1 e2
  by_cases h0 : S = []
  · exact .inl h0
  · have hpos : 0 < S.length := List.length_pos_iff.2 h0
    obtain ⟨b, rfl, _, hb⟩ := hp hpos
    refine .inr ⟨b, 0, rfl, hb, fun i hi => ⟨some ⟨g i, 0, none⟩, (S.getD i []).length + 4, ?_, ?_, fun x hx => by cases hx; exact (s.lt hi).2⟩⟩
    · rw [Nat.zero_add]; exact row_cell s.irow hv hi
    · have h1 : SpAt w (some ⟨g i, 0, none⟩) (lentL (S.getD i [])) := by
        obtain ⟨a, c, e, h1, _⟩ := OwnS.shape (s.each i hi)
        unfold lv at e
        injection e with e1 e2 e3
        subst e1
        exact h1
      have := h1.take (S.getD i []).length
      rwa [show (lentL (S.getD i [])).take (S.getD i []).length = S.getD i [] by simp [lentL]] at this

/-- Lists of parts. -/
structure PD where
  v : Value
  P : List PartD
/-- The j-th In lists lie elsewhere. -/
def Alien (P Q : List PartD) : Prop := ∀ p ∈ P, ∀ q ∈ Q, ∀ k, p.v.ownBlock = some k → ¬ q.v.ownBlock = some k
structure PaS (W1 : World) (o wv : Value) (D E : List PD) (w : World) : Prop where
  orow : w.ownsRow W1.heap.size 40 1 o D.length (D.map PD.v)
  wrow : w.ownsRow W1.heap.size 40 1 wv E.length (E.map PD.v)
  oeach : ∀ d ∈ D, OwnP w W1.heap.size d.v d.P
  weach : ∀ d ∈ E, OwnP w W1.heap.size d.v d.P
  same : ∀ j (h : j < D.length) (h' : j < E.length), bare (D[j]).P = bare (E[j]).P
  small : ∀ d ∈ D, d.P.length ≤ 4294967296 ∧ ∀ p ∈ d.P, p.I.length ≤ 4294967296
  apart : D.Pairwise (fun d e => Alien d.P e.P)
  ne : ∀ x, o.ownBlock = some x → ¬ wv.ownBlock = some x
  below : Below W1.heap.size W1 w
variable {W1 : World} {o wv : Value} {D E : List PD}
theorem PaS.nil (W1 : World) : PaS W1 (.slice none 0 0) (.slice none 0 0) [] [] W1 :=
  ⟨World.ownsRow_nil W1 _ 40 1, World.ownsRow_nil W1 _ 40 1, fun d hd => (by cases hd), fun d hd => (by cases hd), fun j h => absurd h (by simp), fun d hd => (by cases hd), List.Pairwise.nil, fun x hx => (by cases hx), Below.refl _ _⟩
theorem PaS.next (s : PaS W1 o wv D E w) (x : Below w.heap.size w w') : PaS W1 o wv D E w' :=
  ⟨own_below s.orow x, own_below s.wrow x, fun d hd => (s.oeach d hd).below x, fun d hd => (s.weach d hd).below x, s.same, s.small, s.apart, s.ne, s.below.trans (x.mono s.below.size)⟩
theorem ownP_app {v r r' : Value} {base base' n : Nat} {xs : List Value} {P : List PartD} (hp : OwnP w base' v P) (hr : w.ownsRow base 40 1 r n xs) (h2 : AppAt w w' r r') : OwnP w' base' v P := by
  obtain ⟨F, hk, hF⟩ := app_kept h2
  refine hp.kept hk fun k hf => .inr ?_
  obtain ⟨cs, hc⟩ := own_ty hr k (hF k hf)
  exact ⟨cs, 40, hc, by decide, by decide⟩
theorem PaS.pushO (s : PaS W1 o wv D E w) {o' : Value} (x : PD) (hx : OwnP w W1.heap.size x.v x.P) (hsm : x.P.length ≤ 4294967296 ∧ ∀ p ∈ x.P, p.I.length ≤ 4294967296) (hal : ∀ d ∈ D, Alien d.P x.P) (hDE : E.length ≤ D.length)
    (h1 : w'.ownsRow W1.heap.size 40 1 o' (D.length + 1) (D.map PD.v ++ [x.v])) (h2 : AppAt w w' o o') : PaS W1 o' wv (D ++ [x]) E w' := by
  obtain ⟨F, hk, hF⟩ := app_kept h2
  refine ⟨by rw [List.map_append, List.length_append]; exact h1, own_kept s.wrow hk (fun k h3 h4 => s.ne k (hF k h4) h3), fun d hd => ?_, fun d hd => ownP_app (s.weach d hd) s.orow h2, fun j hj hj' => ?_, fun d hd => ?_, ?_, app_ne h2 s.wrow s.ne, below_kept (Nat.le_refl _) s.below (appKept h2 s.orow)⟩
  · rcases List.mem_append.1 hd with h | h
    · exact ownP_app (s.oeach d h) s.orow h2
    · rw [List.mem_singleton.1 h]; exact ownP_app hx s.orow h2
  · rw [List.getElem_append_left (by omega)]; exact s.same j (by omega) hj'
  · rcases List.mem_append.1 hd with h | h
    · exact s.small d h
    · rw [List.mem_singleton.1 h]; exact hsm
  · rw [List.pairwise_append]
    exact ⟨s.apart, List.pairwise_singleton .., fun a ha b hb => by rw [List.mem_singleton.1 hb]; exact hal a ha⟩
theorem PaS.pushE (s : PaS W1 o wv D E w) {wv' : Value} (x : PD) (hx : OwnP w W1.heap.size x.v x.P) (hl : E.length < D.length) (hs : bare (D[E.length]).P = bare x.P)
    (h1 : w'.ownsRow W1.heap.size 40 1 wv' (E.length + 1) (E.map PD.v ++ [x.v])) (h2 : AppAt w w' wv wv') : PaS W1 o wv' D (E ++ [x]) w' := by
  obtain ⟨F, hk, hF⟩ := app_kept h2
  refine ⟨own_kept s.orow hk (fun k h3 h4 => s.ne k h3 (hF k h4)), by rw [List.map_append, List.length_append]; exact h1, fun d hd => ownP_app (s.oeach d hd) s.wrow h2, fun d hd => ?_, fun j hj hj' => ?_, s.small, s.apart, fun k h3 h4 => app_ne h2 s.orow (fun k h5 h6 => s.ne k h6 h5) k h4 h3, below_kept (Nat.le_refl _) s.below (appKept h2 s.wrow)⟩
  · rcases List.mem_append.1 hd with h | h
    · exact ownP_app (s.weach d h) s.wrow h2
    · rw [List.mem_singleton.1 h]; exact ownP_app hx s.wrow h2
  · rw [List.length_append] at hj'
    by_cases hja : j < E.length
    · rw [List.getElem_append_left hja]; exact s.same j hj hja
    · obtain rfl : j = E.length := by simp at hj'; omega
      simp only [List.getElem_append_right (Nat.le_refl _), Nat.sub_self, List.getElem_cons_zero]
      exact hs
/-- Parts whose In lists lie elsewhere stay. -/
theorem OwnP.alien {P Q : List PartD} {v : Value} {base : Nat} (hq : OwnP w base v Q) (ho : ∀ p ∈ P, ∀ k, p.v.ownBlock = some k → ∃ cs, w.heap[k]? = some (.cells cs 3 (0, 0))) (hal : Alien P Q) (hk : Kept (FutL (LsP P) 0) w w') : OwnP w' base v Q := by
  have key : ∀ k, FutL (LsP P) 0 k → ∃ p ∈ P, p.v.ownBlock = some k := by
    rintro k ⟨i, hi, _, h⟩
    simp only [LsP, List.getElem_map] at h
    exact ⟨P[i]'(by simpa [LsP] using hi), List.getElem_mem _, h⟩
  refine ⟨own_kept hq.row hk fun k h3 h4 => ?_, fun q hq' => (hq.ints q hq').kept hk fun k h3 h4 => ?_, hq.apart⟩
  · obtain ⟨p, hp, h5⟩ := key k h4
    obtain ⟨cs, h6⟩ := ho p hp k h5
    obtain ⟨cs', h7⟩ := own_ty hq.row k h3
    rw [h6] at h7
    simp at h7
  · obtain ⟨p, hp, h5⟩ := key k h4
    exact hal p hp q hq' k h5 h3

/-- What stands while lists that were lent are written over. -/
theorem LnS.back {n m : Nat} {wP w' : World} (s : LnS W0 S g n n h inn w) (x : Below w.heap.size w wP) (k : Kept (fun b => ∃ j, j < m ∧ b = g j) wP w') (hm : m ≤ n) :
    Below W0.heap.size W0 w' ∧ w'.ownsRow W0.heap.size 22 1 h n ((List.range n).map (lv S g)) ∧ w'.ownsRow W0.heap.size 22 1 inn n ((List.range n).map (iv S g)) ∧ ∀ j, m ≤ j → j < n → OwnS w' W0.heap.size (lv S g j) (lentL (S.getD j [])) := by
  have sP := s.next x
  refine ⟨sP.below.trans (k.below sP.below.size (fun b ⟨j, hj, e⟩ => by rw [e]; exact (s.lt (by omega)).1)), own_kept sP.hrow k (fun b h3 ⟨j, hj, e⟩ => ?_), own_kept sP.irow k (fun b h3 ⟨j, hj, e⟩ => ?_), fun j hj hjn => own_kept (sP.each j hjn) k (fun b h3 ⟨j', hj', e⟩ => ?_)⟩
  · exact own_ne sP.hrow (sP.each j (by omega)) (by decide) b h3 (by rw [e]; rfl)
  · exact own_ne sP.irow (sP.each j (by omega)) (by decide) b h3 (by rw [e]; rfl)
  · have h3' : some (g j) = some b := h3
    injection h3' with h3'
    exact s.apart j j' hjn (by omega) (by omega) (h3'.trans e)
theorem LnS.ownP {n m : Nat} {wP w' : World} {v : Value} {P : List PartD} (s : LnS W0 S g n n h inn w) (k : Kept (fun b => ∃ j, j < m ∧ b = g j) wP w') (hm : m ≤ n) (ho : OwnP wP w.heap.size v P) : OwnP w' w.heap.size v P :=
  ho.kept k (fun b ⟨j, hj, e⟩ => .inl (by rw [e]; exact (s.lt (by omega)).2))
theorem alien_new {P Q : List PartD} {wa wb : World} {va vb : Value} {ba bb : Nat} (ha : OwnP wa ba va P) (hb : OwnP wb bb vb Q) (hl : wa.heap.size ≤ bb) : Alien P Q := fun p hp q hq k h1 h2 => by
  have := ((ha.ints p hp).tag h1).2.1
  have := ((hb.ints q hq).tag h2).1
  omega
theorem cellPD {n base : Nat} {T : TypeId} {v : Value} {D : List PD} (r : w.ownsRow base T 1 v n (D.map PD.v)) {b cap : Nat} (hv : v = .slice (some ⟨b, 0, none⟩) n cap) {i : Nat} (hi : i < D.length) (hn : n = D.length) : w.cell? ⟨b, i, none⟩ = some (D[i]).v := by
  subst hv hn
  rw [World.ownsRow.cellAt r i (by omega)]
  simp [hi]
/-- While their owner writes into them. -/
structure OwS (W1 : World) (o : Value) (D : List PD) (m : Nat) (w : World) : Prop where
  orow : w.ownsRow W1.heap.size 40 1 o D.length (D.map PD.v)
  each : ∀ j (h : j < D.length), m ≤ j → OwnP w W1.heap.size (D[j]).v (D[j]).P
  small : ∀ d ∈ D, d.P.length ≤ 4294967296 ∧ ∀ p ∈ d.P, p.I.length ≤ 4294967296
  apart : D.Pairwise (fun d e => Alien d.P e.P)
  below : Below W1.heap.size W1 w
theorem PaS.own (s : PaS W1 o wv D E w) : OwS W1 o D 0 w := ⟨s.orow, fun _ h _ => s.oeach _ (List.getElem_mem h), s.small, s.apart, s.below⟩
theorem OwS.step {m : Nat} (s : OwS W1 o D m w) (hm : m < D.length) (hk : Kept (FutL (LsP (D[m]).P) 0) w w') : OwS W1 o D (m + 1) w' := by
  have hp := s.each m hm (Nat.le_refl _)
  have key : ∀ k, FutL (LsP (D[m]).P) 0 k → ∃ p ∈ (D[m]).P, p.v.ownBlock = some k := by
    rintro k ⟨i, hi, _, h⟩
    simp only [LsP, List.getElem_map] at h
    exact ⟨(D[m]).P[i]'(by simpa [LsP] using hi), List.getElem_mem _, h⟩
  refine ⟨own_kept s.orow hk fun k h3 h4 => ?_, fun j hj hmj => (s.each j hj (by omega)).alien (fun p hp' k hk' => ((hp.ints p hp').tag hk').2.2) ?_ hk, s.small, s.apart, s.below.trans (hk.below s.below.size fun k h4 => ?_)⟩
  · obtain ⟨p, hp', h5⟩ := key k h4
    obtain ⟨_, _, cs, h6⟩ := (hp.ints p hp').tag h5
    obtain ⟨cs', h7⟩ := own_ty s.orow k h3
    rw [h6] at h7
    simp at h7
  · exact List.pairwise_iff_getElem.1 s.apart m j hm hj (by omega)
  · obtain ⟨p, hp', h5⟩ := key k h4
    exact ((hp.ints p hp').tag h5).1
theorem Chain.le : ∀ {a : Int} {Q : List (Spn × List Nat)} {b : Int}, Chain a Q b → ∀ q ∈ Q, q.1.1 ≤ q.1.2
  | a, r :: Q, b, h, q, hq => by
    rcases List.mem_cons.1 hq with h1 | h1
    · subst h1; have h2 := h.1; have h3 := h.2.1; omega
    · exact Chain.le h.2.2 q h1
/-- What both Parts answer, and that they answer the same. -/
theorem told_both {S : List (List Spn)} {w w1 w2 w3 : World} {e f : Ending} (hS : S.length ≤ 4294967296) (h : ToldP S w e w1) (h' : ToldP S w2 f w3) :
    ∃ v v' P P' E, e = .returned (.tuple #[v, .int .i64 E]) ∧ f = .returned (.tuple #[v', .int .i64 E]) ∧ OwnP w1 w.heap.size v P ∧ OwnP w3 w2.heap.size v' P' ∧ bare P = bare P' ∧ (P.length ≤ 4294967296 ∧ ∀ p ∈ P, p.I.length ≤ 4294967296) := by
  rcases h.same h' with ⟨v, v', P, P', he, hf, ho, ho', hb, hp⟩ | ⟨he, hf⟩
  · refine ⟨v, v', P, P', 0, he, hf, ho, ho', hb, ?_, fun p hpm => ?_⟩
    · have := hp.chain.bound
      simp [bare] at this
      omega
    · have hm : (p.s, p.I) ∈ bare P := List.mem_map.2 ⟨p, hpm, rfl⟩
      have h1 := hp.each _ hm p.s.1 (Int.le_refl _) (hp.chain.le _ hm)
      have h2 : (inOf S p.s.1).length ≤ S.length := by
        unfold inOf
        exact Nat.le_trans (List.length_filter_le _ _) (by simp)
      simp only at h1
      rw [h1]
      omega
  · exact ⟨_, _, [], [], 1, he, hf, OwnP.nil _ _, OwnP.nil _ _, rfl, by simp, fun p hp => (by cases hp)⟩

set_option maxRecDepth 100000 in
set_option maxHeartbeats 1000000 in
theorem weigh_tot (ao : Option Addr) (cap : Nat) (S : List (List Spn)) (w : World) (hlen : S.length ≤ 140737488351232) (hl : ∀ L ∈ S, L.length ≤ 140737488351232) (hat : SqAt w ao S) :
    Calls Try.prog 29 #[.slice ao S.length cap] w fun e w' => (∃ N : Int, e = .returned (.int .i64 N) ∧ 0 ≤ N ∧ (N ≤ 2147483647 → S.length ≤ 2147483647 ∧ totL S ≤ 2147483647)) ∧ Below w.heap.size w w' := by
  have h0 := addsUp_any 0 (S.length : Int) (by omega) (by omega) w
  go_enter Try.func29, Try.ntmps29
  go_wp2_with (go_at_call 8; refine h0.mono ?_; rintro e wz ⟨⟨N0, rfl, n0, n1, n2⟩, hwz⟩; have hwz' := hwz.symm; subst hwz')
  have HN2 := hide n2
  clear h0 n2
  go_loopw [3, 4] (fun t i wr => ∃ (k : Nat) (N : Int), k ≤ S.length ∧ i = .int .i64 k ∧ t = .int .i64 N ∧ 0 ≤ N ∧ N ≤ 4294967294 ∧ Hid (N ≤ 2147483647 → N = S.length + totL (S.take k)) ∧ Below w.heap.size w wr) (fun _ i _ => S.length - (intOf i).toNat)
  case atStart =>
    refine ⟨0, N0, Nat.zero_le _, rfl, rfl, n0, n1, fun h => ?_, Below.refl _ _⟩
    have := HN2.out h
    simp [totL]
    omega
  case round =>
    obtain ⟨k, N, hk, rfl, rfl, m0, m1, hW, hq⟩ := hrel
    have HQ := hide hq
    clear hq
    by_cases hlt : k < S.length
    · by_cases hN : N ≤ 2147483647
      · rcases hat.below HQ.out with h | ⟨b, off, rfl, hb, hc⟩
        · rw [h] at hlt; simp at hlt
        obtain ⟨ai, ci, q1, _⟩ := hc k hlt
        have hL : (S.getD k []).length ≤ 140737488351232 := by
          have := hl S[k] (List.getElem_mem hlt)
          simpa [List.getD_eq_getElem?_getD, hlt] using this
        have HT : Hid (totL (S.take (k + 1)) = totL (S.take k) + (S.getD k []).length) := by unfold Hid; rw [take_L S k hlt]; simp [totL]
        obtain ⟨X, hX⟩ : ∃ X, X = S.getD k [] := ⟨_, rfl⟩
        rw [← hX] at q1 hL HT
        have HX := hide hX
        have hcon := addsUp_any N (X.length : Int) m0 (by omega) wr
        clear hc hX hat
        go_wp2_with (go_at_call 8; refine hcon.mono ?_; rintro e wy ⟨⟨N2, rfl, r0, r1, r2⟩, hwy⟩; have hwy' := hwy.symm; subst hwy')
        go_roundw
        case rel =>
          refine ⟨k + 1, N2, by omega, by go_num, rfl, r0, r1, fun h => ?_, HQ.out⟩
          have e1 := r2 h
          have w1 := hW.out (by omega)
          have := HT.out
          omega
        case measure => simp [intOf]; omega
      · go_wp2
        go_ret
        exact ⟨⟨N, rfl, m0, fun h => absurd h (by omega)⟩, HQ.out⟩
    · have h8 : k = S.length := by omega
      subst h8
      go_wp2
      go_ret
      refine ⟨⟨N, rfl, m0, fun h => ?_⟩, HQ.out⟩
      have w1 := hW.out h
      rw [List.take_length] at w1
      omega
end Go.Proofs.Ytljagefcgijmlaa
