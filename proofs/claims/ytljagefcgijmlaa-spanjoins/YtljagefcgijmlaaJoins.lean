/-
  SpanJoins, walked: of any lists and any number it answers true; nothing that was there has turned. Condition: a list is no longer than a process can hold.
-/
import Derived.Test.YtljagefcgijmlaaJoin1
import Derived.Test.YtljagefcgijmlaaMJoin
import Derived.Test.YtljagefcgijmlaaMSize
import Derived.Deep.Cut
import Derived.Deep.CutRange
import Derived.Test.YtljagefcgijmlaaHolds
namespace Go.Proofs.Ytljagefcgijmlaa
open Go.RowKit Go.Lib

/-- A set that came out of Make: where it lies. -/
structure SetD where
  ao : Option Addr
  cap : Nat
  A : List Spn
def SetD.v (d : SetD) : Value := .slice d.ao d.A.length d.cap
def setsOf (T : List SetD) : List (List Spn) := T.map SetD.A
/-- The sets, and the row that leads to them. -/
structure RowT (w : World) (base : Nat) (o : Value) (T : List SetD) : Prop where
  row : w.ownsRow base 22 1 o T.length (T.map SetD.v)
  each : ∀ d ∈ T, OwnS w base d.v d.A ∧ IsSet d.A
theorem Try.info22 : (Try.prog.info? 22).map (fun i => (i.zero, i.size, i.bytes)) = some (some (.slice none 0 0), 1, 24) := by kernel_rfl
theorem RowT.nil (w : World) (base : Nat) : RowT w base (.slice none 0 0) [] := ⟨World.ownsRow_nil w base 22 1, fun d hd => (by cases hd)⟩
theorem RowT.below {w w' : World} {base : Nat} {o : Value} {T : List SetD} (h : RowT w base o T) (hb : Below w.heap.size w w') : RowT w' base o T := by
  refine ⟨⟨h.row.1, ?_⟩, fun d hd => ⟨(h.each d hd).1.below hb, (h.each d hd).2⟩⟩
  rcases h.row.2 with hn | ⟨g, cap, cur, rfl, hb', hg, r⟩
  · exact .inl hn
  · exact .inr ⟨g, cap, cur, rfl, hb', (hb.block g (lt_of_block hg)).trans hg, r⟩
theorem RowT.snoc {w w' : World} {base : Nat} {o o' : Value} {T : List SetD} {d : SetD} (h : RowT w base o T) (hd : OwnS w base d.v d.A) (hs : IsSet d.A) (h1 : w'.ownsRow base 22 1 o' (T.length + 1) (T.map SetD.v ++ [d.v])) (h2 : w.grownBy w' o.ownBlock) : RowT w' base o' (T ++ [d]) := by
  have hk : Kept (fun k => o.ownBlock = some k) w w' := (Kept.refl _ _).grown h2 (fun k hk => hk)
  have ne : ∀ x : SetD, OwnS w base x.v x.A → ∀ k, x.v.ownBlock = some k → ¬ o.ownBlock = some k := fun x hx k h3 h4 => by
    rcases h.row.2 with ⟨rfl, _⟩ | ⟨g, cap, cur, rfl, _, hg, _⟩
    · cases h4
    · cases h4
      exact hx.ne hg (by decide) h3
  refine ⟨by rw [List.map_append, List.length_append]; exact h1, fun x hx => ?_⟩
  rcases List.mem_append.1 hx with h5 | h5
  · exact ⟨(h.each x h5).1.kept hk (ne x (h.each x h5).1), (h.each x h5).2⟩
  · rw [List.mem_singleton.1 h5]; exact ⟨hd.kept hk (ne d hd), hs⟩
theorem RowT.tag {w : World} {base : Nat} {o : Value} {T : List SetD} (h : RowT w base o T) {k : Nat} (hk : o.ownBlock = some k) : base ≤ k ∧ k < w.heap.size := World.ownsRow.lt h.row k hk
theorem RowT.at' {w : World} {base : Nat} {o : Value} {T : List SetD} (h : RowT w base o T) : ∃ ao cap, o = .slice ao T.length cap ∧ T.length ≤ cap ∧ SsAt w.heap.size w ao (setsOf T) := by
  rcases h.row.2 with ⟨rfl, hn⟩ | ⟨g, cap, cur, rfl, hb, hg, hc, r⟩
  · have hT := List.length_eq_zero_iff.1 hn
    subst hT
    exact ⟨none, 0, rfl, Nat.le_refl _, .inl rfl⟩
  · refine ⟨_, cap, rfl, hc, .inr ⟨g, 0, rfl, lt_of_block hg, fun i hi => ?_⟩⟩
    have hi' : i < T.length := by simpa [setsOf] using hi
    have e1 : (setsOf T).getD i [] = T[i].A := by simp [setsOf, List.getD_eq_getElem?_getD, hi']
    obtain ⟨o1, s1⟩ := h.each T[i] (List.getElem_mem hi')
    obtain ⟨ai, ci, hv, q1, q2⟩ := o1.shape
    refine ⟨ai, ci, ?_, by rw [e1]; exact q1, fun x hx => (q2 x hx).2⟩
    rw [Nat.zero_add, World.ownsRow.cellAt h.row i (by omega), e1, ← hv]
    simp [hi']
theorem new_val (w0 : World) (v : Value) (T : TypeId) (b : Nat) (hb : b = w0.heap.size) : ∀ j u, ([v] : List Value)[j]? = some u → (w0.alloc (.cells #[v] T)).cell? ((⟨b, 0, none⟩ : Addr).add j) = some u := by
  subst hb
  intro j u hu
  match j, hu with
  | 0, hu => simp at hu; subst hu; simp [Addr.add]
theorem make_own (ao : Option Addr) (cap : Nat) (L : List Spn) (w : World) (hl : L.length ≤ 4294967296) (hat : SpAt w ao L) :
    Calls Try.prog 14 #[.slice ao L.length cap] w fun e w' => (∃ d : SetD, e = .returned (.tuple #[.slice d.ao d.A.length d.cap, .int .i64 0]) ∧ OwnS w' w.heap.size d.v d.A ∧ IsSet d.A ∧ (∀ n, memB n d.A = memB n L) ∧ Below w.heap.size w w') ∨ (e = .returned (.tuple #[.slice none 0 0, .int .i64 20]) ∧ (¬ ∀ s ∈ L, Bnd s) ∧ Below w.heap.size w w') := by
  refine (make_any ao cap L w hl hat).mono ?_
  rintro e w' ⟨b1, ⟨_, v, M', rfl, o, s, m, _⟩ | ⟨hn, rfl⟩⟩
  · obtain ⟨a, c, rfl, h1, h2⟩ := o.shape
    exact .inl ⟨⟨a, c, M'⟩, rfl, o, s, m, b1⟩
  · exact .inr ⟨rfl, hn, b1⟩

theorem count_len {S : List (List Spn)} {Q : List (Spn × List Nat)} (h : PParts S 4294967296 Q) {q : Spn × List Nat} (hq : q ∈ Q) : q.2.length ≤ S.length := by
  rw [h.each q hq q.1.1 (Int.le_refl _) (chain_low h.chain q hq).2]
  unfold inOf
  have := List.length_filter_le (fun k => memB q.1.1 (S.getD k [])) (List.range S.length)
  rwa [List.length_range] at this
/-- Parts as they lie in memory. -/
def Prt (w : World) (g : Nat) (P : List PartD) : Prop := g < w.heap.size ∧ ∀ i, i < P.length → ∃ p ai ci, P[i]? = some p ∧ w.cell? ⟨g, i * 3, none⟩ = some (.int .i64 p.s.1) ∧ w.cell? ⟨g, i * 3 + 1, none⟩ = some (.int .i64 p.s.2) ∧ w.cell? ⟨g, i * 3 + 2, none⟩ = some (.slice ai p.I.length ci) ∧ IAt w ai p.I ∧ (bare P).getD i ((0, 0), []) = (p.s, p.I)
theorem ptCells_get (P : List PartD) : ∀ i p, P[i]? = some p → (ptCells P)[i * 3]? = some (.int .i64 p.s.1) ∧ (ptCells P)[i * 3 + 1]? = some (.int .i64 p.s.2) ∧ (ptCells P)[i * 3 + 2]? = some p.v := by
  induction P with
  | nil => intro i p h; simp at h
  | cons q P ih =>
    intro i p h
    have e : ptCells (q :: P) = .int .i64 q.s.1 :: .int .i64 q.s.2 :: q.v :: ptCells P := by simp [ptCells]
    rw [e]
    cases i with
    | zero => simp at h; subst h; simp
    | succ i =>
      have := ih i p (by simpa using h)
      rw [show (i + 1) * 3 = i * 3 + 1 + 1 + 1 by omega]
      simpa using this
theorem prt_of {w : World} {base : Nat} {v : Value} {P : List PartD} (h : OwnP w base v P) (hp : 0 < P.length) : ∃ g cap, v = .slice (some ⟨g, 0, none⟩) P.length cap ∧ Prt w g P := by
  have hr := h.row
  rcases hr.2 with ⟨_, hn⟩ | ⟨g, cap, cur, rfl, _, hg, _⟩
  · omega
  · refine ⟨g, cap, rfl, lt_of_block hg, fun i hi => ?_⟩
    have hPi : P[i]? = some P[i] := List.getElem?_eq_getElem hi
    obtain ⟨c1, c2, c3⟩ := ptCells_get P i P[i] hPi
    obtain ⟨ai, ci, hv, hI⟩ := (h.ints P[i] (List.getElem_mem hi)).at'
    refine ⟨P[i], ai, ci, hPi, ?_, ?_, ?_, hI, by simp [bare, List.getD_eq_getElem?_getD, hi]⟩
    · rw [World.ownsRow.cellAt hr (i * 3) (by omega)]; exact c1
    · rw [World.ownsRow.cellAt hr (i * 3 + 1) (by omega)]; exact c2
    · rw [World.ownsRow.cellAt hr (i * 3 + 2) (by omega), ← hv]; exact c3
theorem Prt.below {w w' : World} {g : Nat} {P : List PartD} (h : Prt w g P) (hb : Below w.heap.size w w') : Prt w' g P := by
  refine ⟨Nat.lt_of_lt_of_le h.1 hb.size, fun i hi => ?_⟩
  obtain ⟨p, ai, ci, h1, h2, h3, h4, h5, h6⟩ := h.2 i hi
  exact ⟨p, ai, ci, h1, (hb.cell (p := ⟨g, _, none⟩) h.1).trans h2, (hb.cell (p := ⟨g, _, none⟩) h.1).trans h3, (hb.cell (p := ⟨g, _, none⟩) h.1).trans h4, h5.below hb, h6⟩

set_option maxRecDepth 100000 in
set_option maxHeartbeats 20000000 in
theorem joins_law (a0 : Option Addr) (c0 : Nat) (S : List (List Spn)) (n : Int) (w : World) (hat : SqAt w a0 S) (hlen : S.length ≤ 140737488351232) (hl : ∀ L ∈ S, L.length ≤ 140737488351232) :
    Calls Try.prog 7 #[.slice a0 S.length c0, .int .i64 n] w fun e w' => e = .returned (.bool true) ∧ Below w.heap.size w w' := by
  have hwe := weigh_any a0 c0 S w hlen hl hat
  obtain ⟨i0, hi, hz0, hz1, hz2⟩ := info_parts Try.info22
  have h00 := Nat.le_refl w.heap.size
  have HAT := hide hat
  clear hat hl
  go_enter Try.func7, Try.ntmps7
  go_wp2_with (fail)
  refine hwe.mono ?_
  rintro e w1 ⟨⟨N, rfl, hN⟩, x1⟩
  have X1 := hide x1
  by_cases hbig : 2147483647 < N
  · clear x1 hwe hN
    go_wp2
    go_ret
    exact ⟨rfl, X1.out⟩
  obtain ⟨hS, hok⟩ := hN (by omega)
  have HOK := hide hok
  have haw := awake_any w1
  clear x1 hwe hN hok
  go_wp2_with (go_at_call 9; refine haw.mono ?_; rintro e w2 ⟨rfl, x2⟩; have X2 := hide x2; clear x2)
  all_goals first | (exfalso; omega) | skip
  clear haw
  have HB2 := hide (bt X1.out X2.out h00)
  go_loopw [6, 7] (fun o i wr => ∃ (k : Nat) (T : List SetD), k ≤ S.length ∧ k ≤ 128 ∧ i = .int .i64 k ∧ T.length ≤ k ∧ Hid (RowT wr w2.heap.size o T) ∧ Below w2.heap.size w2 wr) (fun _ i _ => S.length - (intOf i).toNat)
  case atStart => exact ⟨0, [], Nat.zero_le _, Nat.zero_le _, rfl, Nat.le_refl _, RowT.nil _ _, Below.refl _ _⟩
  case round =>
    obtain ⟨k, T, hk, hk2, rfl, hT, hrow, hq⟩ := hrel
    have HQ := hide hq
    clear hq
    by_cases hlt : k < S.length ∧ k < 128
    · obtain ⟨hlt1, hlt2⟩ := hlt
      have hbw : Below w.heap.size w wr := bt HB2.out HQ.out h00
      rcases HAT.out.below hbw with h | ⟨b, off, rfl, hb, hc⟩
      · rw [h] at hlt1; simp at hlt1
      obtain ⟨ai, ci, q1, q2⟩ := hc k hlt1
      have hle : (S.getD k []).length ≤ 4294967296 := by
        have := HOK.out S[k] (List.getElem_mem hlt1)
        simpa [List.getD_eq_getElem?_getD, hlt1] using this
      generalize S.getD k [] = X at q1 q2 hle
      have hcon := make_own ai ci X wr hle q2
      clear hc q2 hbw
      go_wp2_with (fail)
      refine hcon.mono ?_
      rintro e w3 (⟨d, rfl, o3, s3, m3, x3⟩ | ⟨rfl, _, x3⟩)
      · have hb4 : Below w2.heap.size w2 (w3.alloc (.cells #[d.v] 22)) := bt (bt HQ.out x3 (Nat.le_refl _)) ((Below.refl w3.heap.size w3).alloc (Nat.le_refl _) _) (Nat.le_refl _)
        have bx : Below w3.heap.size w3 (w3.alloc (.cells #[d.v] 22)) := (Below.refl _ _).alloc (Nat.le_refl _) _
        have HB4 := hide hb4
        have hrow4 := (hrow.out.below x3).below bx
        have HR4 := hide hrow4
        have HO4 := hide ((o3.mono (base' := w2.heap.size) HQ.out.size).below bx)
        have HS3 := hide s3
        have HN := hide (new_val w3 d.v 22 w3.heap.size rfl)
        clear o3 s3 m3 x3 hb4 bx hrow4 hcon
        unfold SetD.v at HN
        go_wp2_with (at_builtin; refine wpList_append_own_at _ rfl (.tmp 47) (.tmp 49) 25 rfl w2.heap.size 22 i0 (.slice none 0 0) 1 24 Try.underlying25 hi hz0 hz1 hz2 rfl (by decide) _ T.length (T.map SetD.v) rfl HR4.out.row ⟨w3.heap.size, 0, none⟩ 1 1 [d.v] rfl rfl HN.out (by simp [Value.oneCell', SetD.v]) (by unfold maxLen; omega) (by omega) HB4.out.size ?_; intro v8 w8 h1 h2 _ h3; have H1 := hide h1; have H2 := hide h2; clear h1 h2 h3)
        go_roundw
        case rel => exact ⟨k + 1, T ++ [d], by omega, by omega, by go_num, by simp; omega, HR4.out.snoc HO4.out HS3.out H1.out H2.out, HB4.out.grown H2.out HB4.out.size (fun i hi => (HR4.out.tag hi).1)⟩
        case measure => simp [intOf]; omega
      · have X3 := hide x3
        clear x3 hcon
        go_wp2
        go_roundw
        case rel => exact ⟨k + 1, T, by omega, by omega, by go_num, by omega, hrow.out.below X3.out, bt HQ.out X3.out (Nat.le_refl _)⟩
        case measure => simp [intOf]; omega
    · go_upto_region 6 with fail
      go_cut [34] from 27 to 50 (fun c wx => c = .bool false ∧ wx = wr)
      case first =>
        clear hrow HQ HAT HOK HB2 X1 X2
        by_cases hkl : k < S.length
        · have hk128 : ¬ (k : Int) < 128 := by omega
          have hkd : decide ((k : Int) < 128) = false := decide_eq_false hk128
          have hkl' : (k : Int) < (S.length : Int) := by omega
          go_wp2_with fail
          go_meet
          exact ⟨by first | rfl | simp [hkd], rfl⟩
        · have hkl' : ¬ (k : Int) < (S.length : Int) := by omega
          go_wp2_with fail
          go_meet
          exact ⟨rfl, rfl⟩
      case rest =>
        obtain ⟨rfl, hwc⟩ := hcut
        have hwc' := hwc.symm
        subst hwc'
        have hbw := bt HB2.out HQ.out h00
        obtain ⟨ao, cap, ho, hcap, hss⟩ := hrow.out.at'
        subst ho
        have lT : (setsOf T).length = T.length := by simp [setsOf]
        have hsets : ∀ L ∈ setsOf T, IsSet L := fun L hL => by
          obtain ⟨d, hd, rfl⟩ := List.mem_map.1 hL
          exact (hrow.out.each d hd).2
        have hp := parts_any ao cap (setsOf T) wr hss (fun L hL => isSet_length (hsets L hL)) (by omega) (by omega)
        rw [lT] at hp
        have HROW := hide hrow.out
        have HSETS := hide hsets
        have HBW := hide hbw
        clear hss hsets hbw hrow HAT HOK HB2 HQ X1 X2
        go_wp2_with (fail)
        refine hp.mono ?_
        rintro e w3 ⟨x3, ⟨_, v, P, rfl, o3, p3⟩ | ⟨hn, _⟩⟩
        rotate_left
        · exact absurd ⟨by omega, HSETS.out⟩ hn
        have hr3 := HROW.out.below x3
        have hb3 : Below w.heap.size w w3 := bt HBW.out x3 h00
        have hlenP := parts_len p3
        rw [bare_length] at hlenP
        obtain ⟨g, pcap, hv, prt⟩ := prt_of o3 hlenP.2
        subst hv
        have HR3 := hide hr3
        have HB3 := hide hb3
        have HP3 := hide p3
        have PRT := hide prt
        clear x3 o3 p3 hr3 hb3 prt HROW HBW hp
        go_wp2
        go_loopw [12, 13] (fun t i wq => ∃ k : Nat, k ≤ P.length ∧ i = .int .i64 k ∧ t = .int .i64 (nextOf 0 (bare P) k) ∧ Below w3.heap.size w3 wq) (fun _ i _ => P.length - (intOf i).toNat)
        case atStart => exact ⟨0, Nat.zero_le _, rfl, rfl, Below.refl _ _⟩
        case round =>
          obtain ⟨k2, hk2', rfl, rfl, hq⟩ := hrel
          have HQ := hide hq
          clear hq
          by_cases hlt : k2 < P.length
          · obtain ⟨p, ai, ci, e1, q1, q2, q3, q4, q5⟩ := (PRT.out.below HQ.out).2 k2 hlt
            have hg := (PRT.out.below HQ.out).1
            have mq : (p.s, p.I) ∈ bare P := by rw [← q5, List.getD_eq_getElem?_getD, List.getElem?_eq_getElem (by rw [bare_length]; exact hlt)]; exact List.getElem_mem _
            have cg := (chain_get HP3.out.chain).1 k2 (by rw [bare_length]; exact hlt)
            rw [q5] at cg
            have top := HP3.out.top _ mq
            have low := chain_low HP3.out.chain _ mq
            have hnx : nextOf 0 (bare P) (k2 + 1) = p.s.2 + 1 := by simp only [nextOf, Nat.add_sub_cancel, q5]; simp
            simp only at cg top low
            generalize nextOf 0 (bare P) k2 = nx at cg ⊢
            obtain ⟨cg1, cg2⟩ := cg
            rw [cg1] at q1 low
            have HNX := hide hnx
            have HD : Hid (Below wr.heap.size wr wr.drew) := (Below.refl _ _).drew
            have hgi : (k2 : Int) < (P.length : Int) := by omega
            by_cases h0 : 0 < k2
            · obtain ⟨p', aj, cj, e1', _, _, q3', q4', q5'⟩ := (PRT.out.below HQ.out).2 (k2 - 1) (by omega)
              have hdf : p.I ≠ p'.I := by
                have := alike_not HP3.out (k2 - 1) (by rw [bare_length]; omega)
                rw [show k2 - 1 + 1 = k2 by omega, q5, q5'] at this
                exact this
              have edf : decide (p.I = p'.I) = false := decide_eq_false hdf
              have hkz : ((k2 : Int) - 1) = ((k2 - 1 : Nat) : Int) := by omega
              have fit : IntKind.i64.wrap ((k2 - 1 : Nat) : Int) = ((k2 - 1 : Nat) : Int) := by simp [IntKind.wrap, IntKind.bits, IntKind.signed]; omega
              have hi2 : ((k2 - 1 : Nat) : Int) < (P.length : Int) := by omega
              have hkg : decide ((0 : Int) < (k2 : Int)) = true := decide_eq_true (by omega)
              have lI : p.I.length ≤ 140737488351232 := by
                have := count_len HP3.out mq
                have := lT
                simp only at *
                omega
              have Q4 := hide q4
              have Q4' := hide q4'
              clear q4 q4' q5 q5' e1 e1' hdf mq hnx
              go_wp2
              refine wp_region_quiet (C := fun w' => Below wr.heap.size wr w') (by kernel_rfl) (by kernel_rfl) HD.out ?_
              refine QW.out (l := _ :: _) ?_
              iterate 14 (refine QW.take (by rfl) ?_; apply Exists.intro; refine ⟨fun w' hw' => ?_, ?_⟩; (· (have g1 := (hw'.cell (p := ⟨g, k2 * 3 + 2, none⟩) hg).trans q3; have g2 := (hw'.cell (p := ⟨g, (k2 - 1) * 3 + 2, none⟩) hg).trans q3'; go_simp; first | done | ((try simp only [fit, hkg]); first | done | rfl))); try simp only [Act.put, List.setIfInBounds_toArray, List.set_cons_zero, List.set_cons_succ])
              iterate 1 (refine QW.take (by rfl) ?_; apply Exists.intro; refine ⟨fun w' hw' => ?_, ?_⟩; (· (have g1 := (hw'.cell (p := ⟨g, k2 * 3 + 2, none⟩) hg).trans q3; have g2 := (hw'.cell (p := ⟨g, (k2 - 1) * 3 + 2, none⟩) hg).trans q3'; go_simp; (refine (ints_any ai aj ci cj p.I p'.I _ lI (Q4.out.below hw') (Q4'.out.below hw')).mono ?_; rintro e w2 ⟨rfl, x2⟩; rw [edf]; exact ⟨rfl, hw'.trans (x2.mono hw'.size)⟩))); try simp only [Act.put, List.setIfInBounds_toArray, List.set_cons_zero, List.set_cons_succ])
              iterate 2 (refine QW.take (by rfl) ?_; apply Exists.intro; refine ⟨fun w' hw' => ?_, ?_⟩; (· (have g1 := (hw'.cell (p := ⟨g, k2 * 3 + 2, none⟩) hg).trans q3; have g2 := (hw'.cell (p := ⟨g, (k2 - 1) * 3 + 2, none⟩) hg).trans q3'; go_simp; first | done | ((try simp only [fit, hkg]); first | done | rfl))); try simp only [Act.put, List.setIfInBounds_toArray, List.set_cons_zero, List.set_cons_succ])
              refine QW.nil ?_
              intro w4 x4
              have X4 := hide x4
              clear x4
              go_wp2
              go_roundw
              case rel => exact ⟨k2 + 1, by omega, by go_num, by rw [HNX.out], bt HQ.out X4.out (Nat.le_refl _)⟩
              case measure => simp [intOf]; omega
            · have hkg : decide ((0 : Int) < (k2 : Int)) = false := decide_eq_false (by omega)
              have hk0 : ¬ (0 : Int) < (k2 : Int) := by omega
              clear q4 q5 e1 mq hnx
              go_wp2
              refine wp_region_quiet (C := fun w' => Below wr.heap.size wr w') (by kernel_rfl) (by kernel_rfl) HD.out ?_
              refine QW.out (l := _ :: _) ?_
              iterate 3 (refine QW.take (by rfl) ?_; apply Exists.intro; refine ⟨fun w' hw' => ?_, ?_⟩; (· (go_simp; first | done | ((try simp only [hkg]); first | done | rfl))); try simp only [Act.put, List.setIfInBounds_toArray, List.set_cons_zero, List.set_cons_succ])
              iterate 12 (refine QW.skip (by rfl) ?_; try simp only [Act.put, List.setIfInBounds_toArray, List.set_cons_zero, List.set_cons_succ])
              iterate 2 (refine QW.take (by rfl) ?_; apply Exists.intro; refine ⟨fun w' hw' => ?_, ?_⟩; (· (go_simp; first | done | ((try simp only [hkg]); first | done | rfl))); try simp only [Act.put, List.setIfInBounds_toArray, List.set_cons_zero, List.set_cons_succ])
              refine QW.nil ?_
              intro w4 x4
              have X4 := hide x4
              clear x4
              go_wp2
              go_roundw
              case rel => exact ⟨k2 + 1, by omega, by go_num, by rw [HNX.out], bt HQ.out X4.out (Nat.le_refl _)⟩
              case measure => simp [intOf]; omega
          · have h8 : k2 = P.length := by omega
            subst h8
            have hnx : nextOf 0 (bare P) P.length = 4294967296 := by have := (chain_get HP3.out.chain).2; rwa [bare_length] at this
            rw [hnx]
            clear hnx
            have HQ0 := hide HQ.out
            clear HQ
            go_wp2
            go_loopw [15] (fun i wq => ∃ k : Nat, k ≤ T.length ∧ i = .int .i64 k ∧ Below w3.heap.size w3 wq) (fun i _ => T.length - (intOf i).toNat)
            case atStart => exact ⟨0, Nat.zero_le _, rfl, HQ0.out⟩
            case round =>
              obtain ⟨k3, hk3, rfl, hq⟩ := hrel
              have HQ := hide hq
              clear hq HQ0
              by_cases hlt3 : k3 < T.length
              · rename World => wL
                go_wp2
                go_loopw [16, 17, 18] (fun al th i wq => ∃ k : Nat, k ≤ P.length ∧ i = .int .i64 k ∧ Hid (OwnS wq wL.heap.size al (allOf ((bare P).take k) k3)) ∧ th = .bool (memB n (allOf ((bare P).take k) k3)) ∧ Below wL.heap.size wL wq) (fun _ _ i _ => P.length - (intOf i).toNat)
                case atStart => exact ⟨0, Nat.zero_le _, rfl, OwnS.nil _ _, rfl, Below.refl _ _⟩
                case round =>
                  obtain ⟨k4, hk4, rfl, ho4, rfl, hq4⟩ := hrel
                  have HQ4 := hide hq4
                  clear hq4
                  by_cases hlt4 : k4 < P.length
                  · obtain ⟨p, ai, ci, e1, q1, q2, q3, q4, q5⟩ := PRT.out.2 k4 hlt4
                    have hg := PRT.out.1
                    have mq : (p.s, p.I) ∈ bare P := by rw [← q5, List.getD_eq_getElem?_getD, List.getElem?_eq_getElem (by rw [bare_length]; exact hlt4)]; exact List.getElem_mem _
                    have hI : p.I.length ≤ 4294967296 := by
                      have := count_len HP3.out mq
                      have := lT
                      simp only at *
                      omega
                    have hnd := parts_nodup HP3.out _ mq
                    have hsn := take_snoc (bare P) k4 (by rw [bare_length]; exact hlt4)
                    rw [q5] at hsn
                    have hal := allOf_length ((bare P).take k4) k3 (fun q hq => parts_nodup HP3.out q (List.mem_of_mem_take hq))
                    rw [List.length_take, bare_length] at hal
                    have Q1 := hide q1
                    have Q2 := hide q2
                    have Q3 := hide q3
                    have Q4 := hide q4
                    have HSN := hide hsn
                    have HND := hide hnd
                    obtain ⟨LL, hLL⟩ : ∃ LL, LL = allOf ((bare P).take k4) k3 := ⟨_, rfl⟩
                    rw [← hLL] at ho4 hal ⊢
                    have HLL := hide hLL
                    clear q1 q2 q3 q4 q5 e1 mq hsn hnd hLL
                    have c3 := ((bt HQ.out HQ4.out (Nat.le_refl _)).cell (p := ⟨g, k4 * 3 + 2, none⟩) hg).trans Q3.out
                    go_wp2
                    go_loopw [16, 17, 19] (fun al th j wq => ∃ k : Nat, k ≤ p.I.length ∧ j = .int .i64 k ∧ Hid (OwnS wq wL.heap.size al (LL ++ List.replicate ((p.I.take k).count k3) p.s)) ∧ th = .bool (memB n (LL ++ List.replicate ((p.I.take k).count k3) p.s)) ∧ Below wL.heap.size wL wq) (fun _ _ j _ => p.I.length - (intOf j).toNat)
                    case atStart => exact ⟨0, Nat.zero_le _, rfl, by simpa [Hid] using ho4.out, by simp, HQ4.out⟩
                    case round =>
                      obtain ⟨k5, hk5, rfl, ho5, rfl, hq5⟩ := hrel
                      have HQ5 := hide hq5
                      clear hq5 c3
                      have hb5 := bt HQ.out HQ5.out (Nat.le_refl _)
                      have c1 := (hb5.cell (p := ⟨g, k4 * 3, none⟩) hg).trans Q1.out
                      have c2 := (hb5.cell (p := ⟨g, k4 * 3 + 1, none⟩) hg).trans Q2.out
                      have c3 := (hb5.cell (p := ⟨g, k4 * 3 + 2, none⟩) hg).trans Q3.out
                      have hgr : g < wr.heap.size := Nat.lt_of_lt_of_le hg hb5.size
                      by_cases hlt5 : k5 < p.I.length
                      · obtain ⟨bi, oi, rfl, hbi, hci⟩ := (Q4.out.below hb5).get hlt5
                        have c4 := hci k5 hlt5
                        have hct := count_take p.I k3 k5 hlt5
                        have hc1 := count_one HND.out k3
                        have hc2 : (p.I.take k5).count k3 ≤ 1 := Nat.le_trans ((List.take_sublist k5 p.I).count_le k3) hc1
                        obtain ⟨x, hx⟩ : ∃ x, x = p.I.getD k5 0 := ⟨_, rfl⟩
                        rw [← hx] at c4 hct
                        have hj5 : (k5 : Int) < (p.I.length : Int) := by omega
                        have hj4 : (k4 : Int) < (P.length : Int) := by omega
                        clear hci hb5 hx
                        by_cases hxk : x = k3
                        · subst hxk
                          rw [if_pos rfl] at hct
                          obtain ⟨CC, hCC⟩ : ∃ CC, CC = LL ++ List.replicate ((p.I.take k5).count x) p.s := ⟨_, rfl⟩
                          have hCC2 : LL ++ List.replicate ((p.I.take (k5 + 1)).count x) p.s = CC ++ [p.s] := by rw [hct, replicate_snoc, ← List.append_assoc, ← hCC]
                          have hCl : CC.length ≤ 4294967297 := by rw [hCC, List.length_append, List.length_replicate]; omega
                          rw [← hCC] at ho5 ⊢
                          have HCC2 := hide hCC2
                          have bx : Below wr.heap.size wr (wr.alloc (.cells #[.int .i64 p.s.1, .int .i64 p.s.2] 46)) := (Below.refl _ _).alloc (Nat.le_refl _) _
                          have hb6 : Below wL.heap.size wL (wr.alloc (.cells #[.int .i64 p.s.1, .int .i64 p.s.2] 46)) := bt HQ5.out bx (Nat.le_refl _)
                          have HB6 := hide hb6
                          have HO6 := hide (ho5.out.below bx)
                          have HN := hide (new_cells wr p.s wr.heap.size rfl)
                          obtain ⟨bv, hbv⟩ : ∃ bv, bv = memB n CC := ⟨_, rfl⟩
                          rw [← hbv]
                          have HBV := hide hbv
                          have hms : memB n (CC ++ [p.s]) = (memB n CC || (decide (p.s.1 ≤ n) && decide (n ≤ p.s.2))) := by rw [memB_append, memB_cons, memB_nil, Bool.or_false]
                          rw [← hbv] at hms
                          have HMS := hide hms
                          clear hCC hCC2 hct bx hb6 hbv hms hc1 hc2 ho5
                          have fin : ∀ w8 v8, w8.ownsRow wL.heap.size 46 2 v8 (CC.length + 1) (spCells CC ++ [.int .i64 p.s.1, .int .i64 p.s.2]) → World.grownBy (wr.alloc (.cells #[.int .i64 p.s.1, .int .i64 p.s.2] 46)) w8 u16.ownBlock → (OwnS w8 wL.heap.size v8 (CC ++ [p.s]) ∧ Below wL.heap.size wL w8) ∧ (w8.cell? ⟨g, k4 * 3, none⟩ = some (.int .i64 p.s.1) ∧ w8.cell? ⟨g, k4 * 3 + 1, none⟩ = some (.int .i64 p.s.2)) := fun w8 v8 h1 h2 => by
                            have b8 : Below wL.heap.size wL w8 := HB6.out.grown h2 HB6.out.size (fun i hi => (HO6.out.lt i hi).1)
                            have b9 := bt HQ.out b8 (Nat.le_refl _)
                            refine ⟨⟨?_, b8⟩, (b9.cell (p := ⟨g, k4 * 3, none⟩) hg).trans Q1.out, (b9.cell (p := ⟨g, k4 * 3 + 1, none⟩) hg).trans Q2.out⟩
                            unfold OwnS
                            rw [spCells_snoc, List.length_append]
                            exact h1
                          have FIN := hide fin
                          clear fin
                          obtain ⟨j0, hj, jz0, jz1, jz2⟩ := Try.info46'
                          cases bv with
                          | true =>
                            go_wp2_with (at_builtin; refine wpList_append_own_at _ rfl (.tmp 142) (.tmp 148) 22 rfl wL.heap.size 46 j0 (.agg #[.int .i64 0, .int .i64 0]) 2 16 Try.underlying22 hj jz0 jz1 jz2 rfl (by decide) _ CC.length (spCells CC) rfl HO6.out ⟨wr.heap.size, 0, none⟩ 1 1 [.int .i64 p.s.1, .int .i64 p.s.2] rfl rfl HN.out (by simp [Value.oneCell']) (by unfold maxLen; omega) (by omega) HB6.out.size ?_; intro v8 w8 h1 h2 _ h3; obtain ⟨⟨f1, f2⟩, f3, f4⟩ := FIN.out w8 v8 h1 h2; have F1 := hide f1; have F2 := hide f2; clear h1 h2 h3 f1 f2)
                            go_roundw
                            case rel => exact ⟨k5 + 1, by omega, by go_num, by rw [HCC2.out]; exact F1.out, by rw [HCC2.out, HMS.out]; rfl, F2.out⟩
                            case measure => simp [intOf]; omega
                          | false =>
                            by_cases z1 : p.s.1 ≤ n
                            · by_cases z2 : n ≤ p.s.2
                              · go_wp2_with (at_builtin; refine wpList_append_own_at _ rfl (.tmp 142) (.tmp 148) 22 rfl wL.heap.size 46 j0 (.agg #[.int .i64 0, .int .i64 0]) 2 16 Try.underlying22 hj jz0 jz1 jz2 rfl (by decide) _ CC.length (spCells CC) rfl HO6.out ⟨wr.heap.size, 0, none⟩ 1 1 [.int .i64 p.s.1, .int .i64 p.s.2] rfl rfl HN.out (by simp [Value.oneCell']) (by unfold maxLen; omega) (by omega) HB6.out.size ?_; intro v8 w8 h1 h2 _ h3; obtain ⟨⟨f1, f2⟩, f3, f4⟩ := FIN.out w8 v8 h1 h2; have F1 := hide f1; have F2 := hide f2; clear h1 h2 h3 f1 f2)
                                go_roundw
                                case rel => exact ⟨k5 + 1, by omega, by go_num, by rw [HCC2.out]; exact F1.out, by rw [HCC2.out, HMS.out, decide_eq_true z1, decide_eq_true z2]; rfl, F2.out⟩
                                case measure => simp [intOf]; omega
                              · go_wp2_with (at_builtin; refine wpList_append_own_at _ rfl (.tmp 142) (.tmp 148) 22 rfl wL.heap.size 46 j0 (.agg #[.int .i64 0, .int .i64 0]) 2 16 Try.underlying22 hj jz0 jz1 jz2 rfl (by decide) _ CC.length (spCells CC) rfl HO6.out ⟨wr.heap.size, 0, none⟩ 1 1 [.int .i64 p.s.1, .int .i64 p.s.2] rfl rfl HN.out (by simp [Value.oneCell']) (by unfold maxLen; omega) (by omega) HB6.out.size ?_; intro v8 w8 h1 h2 _ h3; obtain ⟨⟨f1, f2⟩, f3, f4⟩ := FIN.out w8 v8 h1 h2; have F1 := hide f1; have F2 := hide f2; clear h1 h2 h3 f1 f2)
                                go_roundw
                                case rel => exact ⟨k5 + 1, by omega, by go_num, by rw [HCC2.out]; exact F1.out, by rw [HCC2.out, HMS.out, decide_eq_false z2, Bool.and_false]; rfl, F2.out⟩
                                case measure => simp [intOf]; omega
                            · go_wp2_with (at_builtin; refine wpList_append_own_at _ rfl (.tmp 142) (.tmp 148) 22 rfl wL.heap.size 46 j0 (.agg #[.int .i64 0, .int .i64 0]) 2 16 Try.underlying22 hj jz0 jz1 jz2 rfl (by decide) _ CC.length (spCells CC) rfl HO6.out ⟨wr.heap.size, 0, none⟩ 1 1 [.int .i64 p.s.1, .int .i64 p.s.2] rfl rfl HN.out (by simp [Value.oneCell']) (by unfold maxLen; omega) (by omega) HB6.out.size ?_; intro v8 w8 h1 h2 _ h3; obtain ⟨⟨f1, f2⟩, f3, f4⟩ := FIN.out w8 v8 h1 h2; have F1 := hide f1; have F2 := hide f2; clear h1 h2 h3 f1 f2)
                              go_roundw
                              case rel => exact ⟨k5 + 1, by omega, by go_num, by rw [HCC2.out]; exact F1.out, by rw [HCC2.out, HMS.out, decide_eq_false z1, Bool.false_and]; rfl, F2.out⟩
                              case measure => simp [intOf]; omega
                        · rw [if_neg hxk, Nat.add_zero] at hct
                          have hxk' : ¬ (x : Int) = (k3 : Int) := by omega
                          have HCT := hide hct
                          clear hct
                          go_wp2
                          go_roundw
                          case rel => exact ⟨k5 + 1, by omega, by go_num, by rw [HCT.out]; exact ho5.out, by rw [HCT.out]; rfl, HQ5.out⟩
                          case measure => simp [intOf]; omega
                      · have h8 : k5 = p.I.length := by omega
                        subst h8
                        rw [List.take_length] at ho5 ⊢
                        have hj4 : (k4 : Int) < (P.length : Int) := by omega
                        have hsn2 : allOf ((bare P).take (k4 + 1)) k3 = LL ++ List.replicate (p.I.count k3) p.s := by rw [HSN.out, allOf_snoc, ← HLL.out]
                        have HSN2 := hide hsn2
                        clear hsn2 hb5
                        go_wp2
                        go_roundw
                        case rel => exact ⟨k4 + 1, by omega, by go_num, by rw [HSN2.out]; exact ho5.out, by rw [HSN2.out], HQ5.out⟩
                        case measure => simp [intOf]; omega
                  · have h8 : k4 = P.length := by omega
                    subst h8
                    have etk : (bare P).take P.length = bare P := by rw [← bare_length, List.take_length]
                    rw [etk] at ho4 ⊢
                    have hbn := allOf_bnd HP3.out k3
                    have hme := allOf_mem HP3.out HSETS.out k3 (by rw [lT]; exact hlt3)
                    have hal := allOf_length (bare P) k3 (parts_nodup HP3.out)
                    rw [bare_length] at hal
                    obtain ⟨aa, cc, hv, hsp, _⟩ := ho4.out.shape
                    subst hv
                    have hmk := make_own aa cc (allOf (bare P) k3) wr (by omega) hsp
                    have hA : IsSet ((setsOf T).getD k3 []) := HSETS.out _ (by rw [List.getD_eq_getElem?_getD, List.getElem?_eq_getElem (by rw [lT]; exact hlt3)]; exact List.getElem_mem _)
                    obtain ⟨ao', cap', he, _, hss⟩ := (HR3.out.below (bt HQ.out HQ4.out (Nat.le_refl _))).at'
                    injection he with he1 he2 he3
                    subst he1 he3
                    rcases hss with h | ⟨bs, os, rfl, hbs, hcs⟩
                    · have := lT; rw [h] at this; simp at this; omega
                    obtain ⟨si, sc, r1, r2, r3⟩ := hcs k3 (by rw [lT]; exact hlt3)
                    rw [hme n]
                    obtain ⟨A, hAe⟩ : ∃ A, A = (setsOf T).getD k3 [] := ⟨_, rfl⟩
                    rw [← hAe] at hA hme r1 r2 ⊢
                    have hj3 : (k3 : Int) < (T.length : Int) := by omega
                    have lA := isSet_length hA
                    have HME := hide hme
                    have HBN := hide hbn
                    have R2 := hide r2
                    clear ho4 hsp hcs r2 r3 hme hbn hAe etk
                    go_wp2_with (fail)
                    refine hmk.mono ?_
                    rintro e w5 (⟨⟨dao, dcap, dA⟩, rfl, o5, s5, m5, x5⟩ | ⟨_, hn, _⟩)
                    rotate_left
                    · exact absurd HBN.out hn
                    simp only [SetD.v] at o5 s5 m5
                    have hdA : dA = A := IsSet.unique s5 hA (fun m => (m5 m).trans (HME.out m))
                    subst hdA
                    obtain ⟨a5, c5, he5, hsp5, _⟩ := o5.shape
                    injection he5 with he6 he7 he8
                    have hsp6 : SpAt w5 dao dA := by rw [he6]; exact hsp5
                    have t1 := (x5.cell (p := ⟨bs, os + k3, none⟩) hbs).trans r1
                    have lb5 := Nat.lt_of_lt_of_le hbs x5.size
                    have R5 := hide (R2.out.below x5)
                    have X5 := hide x5
                    have hspc := spans_any dao si dcap sc dA dA w5 (by omega) hsp6 R5.out
                    rw [decide_eq_true rfl] at hspc
                    clear o5 s5 m5 x5 hmk hsp5 hsp6 he6 he7 he8
                    go_wp2_with (fail)
                    refine hspc.mono ?_
                    rintro e w6 ⟨rfl, x6⟩
                    have t2 := (x6.cell (p := ⟨bs, os + k3, none⟩) lb5).trans t1
                    have R6 := hide (R5.out.below x6)
                    have X6 := hide x6
                    have hhs := has_any si sc dA n w6 (by omega) R6.out
                    rw [has_set hA] at hhs
                    clear x6 hspc
                    generalize memB n dA = bv at hhs ⊢
                    cases bv <;>
                      (go_wp2_with (go_at_call 12; refine hhs.mono ?_; rintro e w7 ⟨rfl, x7⟩; have X7 := hide x7; clear x7)
                       go_roundw
                       case rel => exact ⟨k3 + 1, by omega, by go_num, bt (bt (bt (bt HQ.out HQ4.out (Nat.le_refl _)) X5.out (Nat.le_refl _)) X6.out (Nat.le_refl _)) X7.out (Nat.le_refl _)⟩
                       case measure => simp [intOf]; omega)
              · have h8 : k3 = T.length := by omega
                subst h8
                go_wp2
                go_ret
                exact ⟨rfl, bt HB3.out HQ.out h00⟩
end Go.Proofs.Ytljagefcgijmlaa
