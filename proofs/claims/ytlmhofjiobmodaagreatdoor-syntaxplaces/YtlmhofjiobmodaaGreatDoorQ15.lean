/-
  What stands behind a test's word, by its contract: texts; all of it. No condition.
-/
import Derived.Test.YtlmhofjiobmodaaGreatDoorQ14
namespace Go.Proofs.YtlmhofjiobmodaaGreatDoor
open Go.RowKit Go.Lib

theorem TcA.setN {w : World} {base cp : Nat} {c : CT} {v3 v4 v5 : Value} (h : TcA w base cp c v3 v4 v5) (x : By) : TcA (w.setCell ⟨cp, 1, none⟩ (.string ⟨x.toArray⟩)) base cp (.mk c.k x c.tx c.pre c.sp c.ns c.kids c.p) v3 v4 v5 := by
  have K : Kept (fun k => k = cp) w (w.setCell ⟨cp, 1, none⟩ (.string ⟨x.toArray⟩)) := Kept.setCell (F := fun k => k = cp) (p := ⟨cp, 1, none⟩) (Kept.refl _ _) rfl _
  have ow : ∀ {e : TypeId} {size n : Nat} {v : Value} {xs : List Value}, w.ownsRow base e size v n xs → e ≠ 60 → (w.setCell ⟨cp, 1, none⟩ (.string ⟨x.toArray⟩)).ownsRow base e size v n xs := fun ho he => own_other ho K (fun k hk => by have hk : k = cp := hk; subst hk; exact ⟨_, 60, _, h.blk, fun e => he e.symm⟩)
  refine ⟨?_, ow h.o3 (by decide), ow h.o4 (by decide), ow h.o5 (by decide), h.kids, h.bas⟩
  have := block_setCell' h.blk 1 (.string ⟨x.toArray⟩)
  simpa [CT.k, CT.nm, CT.tx, CT.p] using this
theorem TcA.setT {w : World} {base cp : Nat} {c : CT} {v3 v4 v5 : Value} (h : TcA w base cp c v3 v4 v5) (x : By) : TcA (w.setCell ⟨cp, 2, none⟩ (.string ⟨x.toArray⟩)) base cp (.mk c.k c.nm x c.pre c.sp c.ns c.kids c.p) v3 v4 v5 := by
  have K : Kept (fun k => k = cp) w (w.setCell ⟨cp, 2, none⟩ (.string ⟨x.toArray⟩)) := Kept.setCell (F := fun k => k = cp) (p := ⟨cp, 2, none⟩) (Kept.refl _ _) rfl _
  have ow : ∀ {e : TypeId} {size n : Nat} {v : Value} {xs : List Value}, w.ownsRow base e size v n xs → e ≠ 60 → (w.setCell ⟨cp, 2, none⟩ (.string ⟨x.toArray⟩)).ownsRow base e size v n xs := fun ho he => own_other ho K (fun k hk => by have hk : k = cp := hk; subst hk; exact ⟨_, 60, _, h.blk, fun e => he e.symm⟩)
  refine ⟨?_, ow h.o3 (by decide), ow h.o4 (by decide), ow h.o5 (by decide), h.kids, h.bas⟩
  have := block_setCell' h.blk 2 (.string ⟨x.toArray⟩)
  simpa [CT.k, CT.nm, CT.tx, CT.p] using this
theorem RdA.cp {w : World} {rbase rp g cap cp k : Nat} {Ts : List Tk} {i : Nat} {cs : Array Value} {f : Nat × Nat} (h : RdA w rbase rp g cap Ts i) (hc : w.heap[cp]? = some (.cells cs 60 f)) (v : Value) : RdA (w.setCell ⟨cp, k, none⟩ v) rbase rp g cap Ts i := by
  have K : Kept (fun j => j = cp) w (w.setCell ⟨cp, k, none⟩ v) := Kept.setCell (F := fun j => j = cp) (p := ⟨cp, k, none⟩) (Kept.refl _ _) rfl _
  refine h.kept K (fun e => block_ne h.blk hc (by decide) e) (fun e => ?_)
  obtain ⟨cs2, h7⟩ := own_ty h.row g rfl
  exact block_ne h7 hc (by decide) e
theorem LfK.setC {base rp cp k : Nat} {w : World} {cs : Array Value} {f : Nat × Nat} (hc : w.heap[cp]? = some (.cells cs 60 f)) (hb : base ≤ cp) (v : Value) : LfK base rp w (w.setCell ⟨cp, k, none⟩ v) :=
  LfK.of_cp hc hb (Kept.setCell (F := fun j => j = cp) (p := ⟨cp, k, none⟩) (Kept.refl _ _) rfl _)
theorem takeP_ok {Ts : List Tk} {kind : Int} {i : Nat} (h : (tok Ts i).k = kind) : takeP Ts kind i = .ok (tok Ts i) (i + 1) := by unfold takeP; rw [if_pos h]
theorem takeP_bad {Ts : List Tk} {kind : Int} {i : Nat} (h : ¬ (tok Ts i).k = kind) : takeP Ts kind i = .bad 90 (tok Ts i).p := by unfold takeP; rw [if_neg h]
theorem takeT_ok {Ts : List Tk} {kind : Int} {text : By} {i : Nat} (h : isT Ts kind text i = true) : takeT Ts kind text i = .ok () (i + 1) := by unfold takeT; rw [if_pos h]
theorem takeT_bad {Ts : List Tk} {kind : Int} {text : By} {i : Nat} (h : ¬ isT Ts kind text i = true) : takeT Ts kind text i = .bad 90 (tok Ts i).p := by unfold takeT; rw [if_neg h]
set_option maxRecDepth 100000 in
set_option maxHeartbeats 2000000 in
theorem rest_path {w : World} {base cp rbase rp g cap : Nat} {Ts : List Tk} {f i : Nat} {c : CT} {v3 v4 v5 : Value} (hk : c.k = 10) (hT : TcA w base cp c v3 v4 v5) (hR : RdA w rbase rp g cap Ts i) : Calls Tryz.prog 145 #[.pointer (some ⟨rp, 0, none⟩), .pointer (some ⟨cp, 0, none⟩)] w (PostL base cp rbase rp g cap Ts w (restP Ts f c i)) := by
  obtain ⟨x, hx⟩ : ∃ x, x = restP Ts f c i := ⟨_, rfl⟩
  rw [← hx]
  have HX : Hid (x = (takeT Ts 7 [126] i).bind fun _ j => (takeP Ts 6 j).bind fun t l => .ok (.mk c.k c.nm t.t c.pre c.sp c.ns c.kids c.p) l) := by
    unfold Hid
    rw [hx]
    unfold restP
    rw [if_neg (by rw [hk]; decide), if_neg (by rw [hk]; decide), if_neg (by rw [hk]; decide), if_pos hk]
  clear hx
  have XA := hide (show Below w.heap.size w (w.alloc (.cells #[.pointer (some ⟨rp, 0, none⟩)] 102)) from al (Below.refl _ _) _)
  obtain ⟨W, hW⟩ : ∃ W, W = (w.alloc (.cells #[.pointer (some ⟨rp, 0, none⟩)] 102)).alloc (.cells #[.pointer (some ⟨cp, 0, none⟩)] 177) := ⟨_, rfl⟩
  have XW := hide (show Below w.heap.size w W by rw [hW]; exact al XA.out _)
  obtain ⟨rv, hrv⟩ : ∃ rv, rv = w.heap.size := ⟨_, rfl⟩
  obtain ⟨vp, hvp⟩ : ∃ vp, vp = (w.alloc (.cells #[.pointer (some ⟨rp, 0, none⟩)] 102)).heap.size := ⟨_, rfl⟩
  have HU := hide (show W.heap[rv]? = some (.cells #[.pointer (some ⟨rp, 0, none⟩)] 102 (0, 0)) by
    rw [hW, hrv]
    exact (heap_alloc_old _ _ (by simp)).trans (heap_alloc_new w _))
  have HV := hide (show W.heap[vp]? = some (.cells #[.pointer (some ⟨cp, 0, none⟩)] 177 (0, 0)) by
    rw [hW, hvp]
    exact heap_alloc_new _ _)
  have hvq : vp = w.heap.size + 1 := by rw [hvp]; simp
  have NE : Hid (vp ≠ rp ∧ rv ≠ rp) := by
    have h1 := lt_of_block hR.blk
    exact ⟨by omega, by omega⟩
  have R0 := hide (hR.below XW.out)
  have L0 : Hid (LfK base rp w W) := LfK.of_below XW.out
  have T0 := hide (hT.below XW.out)
  have HK := hide hk
  clear hR hT XA hk
  have c0 : W.cell? ⟨vp, 0, none⟩ = some (.pointer (some ⟨cp, 0, none⟩)) := by rw [cell_of_row _ _ _ _ _ _ HV.out]; rfl
  have c1 : W.cell? ⟨cp, 0, none⟩ = some (.int .i64 10) := by rw [cell_of_row _ _ _ _ _ _ T0.out.blk, ← HK.out]; rfl
  have c2 : W.cell? ⟨rv, 0, none⟩ = some (.pointer (some ⟨rp, 0, none⟩)) := by rw [cell_of_row _ _ _ _ _ _ HU.out]; rfl
  go_enter Tryz.func145, Tryz.ntmps145
  go_upto_region 1 with fail
  rw [← hvq, ← hW, ← hrv]
  clear hW hrv hvp hvq XW
  go_upto_region 9 with fail
  clear c0 c1 c2
  have T := hide T0.out
  have R := hide R0.out
  have L := hide L0.out
  have V := hide HV.out
  have U := hide HU.out
  clear T0 R0 L0 HV HU
  have c2 : W.cell? ⟨rv, 0, none⟩ = some (.pointer (some ⟨rp, 0, none⟩)) := by rw [cell_of_row _ _ _ _ _ _ U.out]; rfl
  by_cases hs : isT Ts 7 [126] (i) = true
  · have HTA := hide (takeS_ok R.out hs)
    have HXN : Hid (x = (takeP Ts 6 (i + 1)).bind fun t l => .ok (.mk c.k c.nm t.t c.pre c.sp c.ns c.kids c.p) l) := by
      unfold Hid
      rw [HX.out, takeT_ok hs]
      rfl
    clear hs HX
    go_upto_region 10 with (go_at_call 75; refine HTA.out.mono ?_; rintro e v1 ⟨rfl, r3, k3⟩; have R3 := hide r3; have K3 := hide k3; clear r3 k3)
    have LC : Hid (LfK base rp W v1) := LfK.of_rp K3.out
    have T3 := hide (T.out.rp K3.out R.out.blk)
    have L3 : Hid (LfK base rp w v1) := L.out.trans LC.out
    have V3 := hide (LC.out.keep V.out NE.out.1 (by decide))
    have U3 := hide (LC.out.keep U.out NE.out.2 (by decide))
    have HX := hide HXN.out
    clear T R L V U K3 LC HTA HXN c2
    have T := hide T3.out
    have R := hide R3.out
    have L := hide L3.out
    have V := hide V3.out
    have U := hide U3.out
    clear T3 R3 L3 V3 U3
    refine wp_unt (S := fun V => V.cell? ⟨vp, 0, none⟩ = some (.pointer (some ⟨cp, 0, none⟩)) ∧ V.cell? ⟨rv, 0, none⟩ = some (.pointer (some ⟨rp, 0, none⟩))) 6 (by kernel_rfl) ?_
    have HS0 : Hid (Below v1.heap.size v1 v1.drew) := (Below.refl _ _).drew
    have T2 := hide (T.out.below HS0.out)
    have V2 := hide ((HS0.out.block vp (lt_of_block V.out)).trans V.out)
    have U2 := hide ((HS0.out.block rv (lt_of_block U.out)).trans U.out)
    have R2 := hide (R.out.below HS0.out)
    have L2 : Hid (LfK base rp w v1.drew) := L.out.trans (LfK.of_below HS0.out)
    clear HS0 T V U R L
    generalize v1.drew = wd at *
    have SF : Hid (∀ Y : World, Y.heap[vp]? = some (.cells #[.pointer (some ⟨cp, 0, none⟩)] 177 (0, 0)) → Y.heap[rv]? = some (.cells #[.pointer (some ⟨rp, 0, none⟩)] 102 (0, 0)) → Y.cell? ⟨vp, 0, none⟩ = some (.pointer (some ⟨cp, 0, none⟩)) ∧ Y.cell? ⟨rv, 0, none⟩ = some (.pointer (some ⟨rp, 0, none⟩))) := fun Y h1 h2 => ⟨by rw [cell_of_row _ _ _ _ _ _ h1]; rfl, by rw [cell_of_row _ _ _ _ _ _ h2]; rfl⟩
    have S2 := hide (SF.out wd V2.out U2.out)
    refine UntH.take (i := 0) (some 27) rfl rfl (by kernel_rfl) (by kernel_rfl) (by kernel_rfl) (by kernel_rfl) (fun _ _ _ _ h => h) (by rfl) S2.out ?_
    apply Exists.intro
    refine ⟨fun w' hw' => ?_, ?_⟩
    · obtain ⟨q1, q2⟩ := hw'
      go_simp
      first | done | rfl
    try simp only [Act.put, List.setIfInBounds_toArray, List.set_cons_zero, List.set_cons_succ]
    refine UntH.take (i := 1) (some 28) rfl rfl (by kernel_rfl) (by kernel_rfl) (by kernel_rfl) (by kernel_rfl) (fun _ _ _ _ h => h) (by rfl) S2.out ?_
    apply Exists.intro
    refine ⟨fun w' hw' => ?_, ?_⟩
    · obtain ⟨q1, q2⟩ := hw'
      go_simp
      first | done | rfl
    try simp only [Act.put, List.setIfInBounds_toArray, List.set_cons_zero, List.set_cons_succ]
    obtain ⟨z, hz⟩ : ∃ z, z = tok Ts (i + 1) := ⟨_, rfl⟩
    have HZ := hide hz
    by_cases hk6 : (tok Ts (i + 1)).k = 6
    · have HTA := hide (takeR_ok R2.out hk6 (by decide))
      have HXN : Hid (x = .ok (.mk c.k c.nm z.t c.pre c.sp c.ns c.kids c.p) (i + 1 + 1)) := by
        unfold Hid
        rw [HX.out, takeP_ok hk6, ← hz]
        rfl
      unfold tkV at HTA
      rw [← hz] at HTA
      clear hk6 hz HX
      refine UntH.step (i := 2) (by kernel_rfl) rfl (fun K hK => ?_)
      go_simp
      refine HTA.out.mono ?_
      rintro e w3 ⟨rfl, r3, k3⟩
      have R3 := hide r3
      have T3 := hide (T2.out.rp k3 R2.out.blk)
      have L3 : Hid (LfK base rp w w3) := L2.out.trans (LfK.of_rp k3)
      have LK : Hid (LfK base rp wd w3) := LfK.of_rp k3
      have V3 := hide (LK.out.keep V2.out NE.out.1 (by decide))
      have U3 := hide (LK.out.keep U2.out NE.out.2 (by decide))
      have S3 := hide (SF.out w3 V3.out U3.out)
      refine hK _ _ S3.out ?_
      clear hK K r3 k3 R2 T2 L2 V2 U2 S2 LK HTA
      try simp only [Act.put, List.setIfInBounds_toArray, List.set_cons_zero, List.set_cons_succ]
      have hf := fld1
      refine UntH.take (i := 3) (some 30) rfl rfl (by kernel_rfl) (by kernel_rfl) (by kernel_rfl) (by kernel_rfl) (fun _ _ _ _ h => h) (by rfl) S3.out ?_
      apply Exists.intro
      refine ⟨fun w' hw' => ?_, ?_⟩
      · obtain ⟨q1, q2⟩ := hw'
        go_simp
        first | done | rfl
      try simp only [Act.put, List.setIfInBounds_toArray, List.set_cons_zero, List.set_cons_succ]
      refine UntH.take (i := 4) (some 31) rfl rfl (by kernel_rfl) (by kernel_rfl) (by kernel_rfl) (by kernel_rfl) (fun _ _ _ _ h => h) (by rfl) S3.out ?_
      apply Exists.intro
      refine ⟨fun w' hw' => ?_, ?_⟩
      · obtain ⟨q1, q2⟩ := hw'
        go_simp
        first | done | rfl
      try simp only [Act.put, List.setIfInBounds_toArray, List.set_cons_zero, List.set_cons_succ]
      refine UntH.take (i := 5) (some 32) rfl rfl (by kernel_rfl) (by kernel_rfl) (by kernel_rfl) (by kernel_rfl) (fun _ _ _ _ h => h) (by rfl) S3.out ?_
      apply Exists.intro
      refine ⟨fun w' hw' => ?_, ?_⟩
      · obtain ⟨q1, q2⟩ := hw'
        go_simp
        first | done | rfl
      try simp only [Act.put, List.setIfInBounds_toArray, List.set_cons_zero, List.set_cons_succ]
      clear hf
      have c7 : ∃ u, w3.cell? ⟨cp, 2, none⟩ = some u := ⟨_, by rw [cell_of_row _ _ _ _ _ _ T3.out.blk]; rfl⟩
      obtain ⟨u7, c7⟩ := c7
      have f7 := frozen_of_row w3 cp 2 _ _ T3.out.blk
      refine UntH.last (by kernel_rfl) rfl (by kernel_rfl) (by kernel_rfl) (fun K hK => ?_)
      go_simp
      refine hK _ _ ?_
      clear hK K c7 f7
      have LC : Hid (LfK base rp w3 (w3.setCell ⟨cp, 2, none⟩ (.string ⟨z.t.toArray⟩))) := LfK.setC T3.out.blk T3.out.bas _
      have T := hide (T3.out.setT z.t)
      have R := hide (R3.out.cp (k := 2) T3.out.blk (.string ⟨z.t.toArray⟩))
      have L : Hid (LfK base rp w (w3.setCell ⟨cp, 2, none⟩ (.string ⟨z.t.toArray⟩))) := L3.out.trans LC.out
      have V := hide (LC.out.keep V3.out NE.out.1 (by decide))
      have U := hide (LC.out.keep U3.out NE.out.2 (by decide))
      clear T3 R3 L3 V3 U3 S3 LC
      generalize (w3.setCell ⟨cp, 2, none⟩ (.string ⟨z.t.toArray⟩)) = v2 at *
      go_wp2
      go_end0
      exact PostL.okI HXN.out rfl ⟨_, _, _, T.out⟩ R.out L.out
    · have HTA := hide (takeR_bad R2.out hk6)
      have HXN : Hid (x = .bad 90 z.p) := by
        unfold Hid
        rw [HX.out, takeP_bad hk6, ← hz]
        rfl
      rw [← hz] at HTA
      clear hk6 hz HX
      refine UntH.step (i := 2) (by kernel_rfl) rfl (fun K hK => ?_)
      go_simp
      refine HTA.out.mono ?_
      rintro e w3 ⟨he, x3⟩
      unfold pan at he
      subst he
      exact ⟨rfl, PostL.badI HXN.out rfl (L2.out.trans (LfK.of_below x3))⟩
  · have HTA := hide (takeS_bad R.out hs)
    have HXN : Hid (x = .bad 90 (tok Ts (i)).p) := by
      unfold Hid
      rw [HX.out, takeT_bad hs]
      rfl
    generalize (tok Ts (i)).p = zp at *
    clear hs HX
    go_wp2_with (go_at_call 75; refine HTA.out.mono ?_; rintro e w3 ⟨he, x3⟩; unfold pan at he; subst he; have X3 := hide x3; clear x3)
    exact ⟨rfl, PostL.badI HXN.out rfl (L.out.trans (LfK.of_below X3.out))⟩
set_option maxRecDepth 100000 in
set_option maxHeartbeats 2000000 in
theorem rest_header {w : World} {base cp rbase rp g cap : Nat} {Ts : List Tk} {f i : Nat} {c : CT} {v3 v4 v5 : Value} (hk : c.k = 11) (hT : TcA w base cp c v3 v4 v5) (hR : RdA w rbase rp g cap Ts i) : Calls Tryz.prog 145 #[.pointer (some ⟨rp, 0, none⟩), .pointer (some ⟨cp, 0, none⟩)] w (PostL base cp rbase rp g cap Ts w (restP Ts f c i)) := by
  obtain ⟨x, hx⟩ : ∃ x, x = restP Ts f c i := ⟨_, rfl⟩
  rw [← hx]
  have HX : Hid (x = (takeP Ts 6 i).bind fun u h => (takeT Ts 7 [126] h).bind fun _ j => (takeP Ts 6 j).bind fun t l => .ok (.mk c.k u.t t.t c.pre c.sp c.ns c.kids c.p) l) := by
    unfold Hid
    rw [hx]
    unfold restP
    rw [if_neg (by rw [hk]; decide), if_neg (by rw [hk]; decide), if_neg (by rw [hk]; decide), if_neg (by rw [hk]; decide), if_pos hk]
  clear hx
  have XA := hide (show Below w.heap.size w (w.alloc (.cells #[.pointer (some ⟨rp, 0, none⟩)] 102)) from al (Below.refl _ _) _)
  obtain ⟨W, hW⟩ : ∃ W, W = (w.alloc (.cells #[.pointer (some ⟨rp, 0, none⟩)] 102)).alloc (.cells #[.pointer (some ⟨cp, 0, none⟩)] 177) := ⟨_, rfl⟩
  have XW := hide (show Below w.heap.size w W by rw [hW]; exact al XA.out _)
  obtain ⟨rv, hrv⟩ : ∃ rv, rv = w.heap.size := ⟨_, rfl⟩
  obtain ⟨vp, hvp⟩ : ∃ vp, vp = (w.alloc (.cells #[.pointer (some ⟨rp, 0, none⟩)] 102)).heap.size := ⟨_, rfl⟩
  have HU := hide (show W.heap[rv]? = some (.cells #[.pointer (some ⟨rp, 0, none⟩)] 102 (0, 0)) by
    rw [hW, hrv]
    exact (heap_alloc_old _ _ (by simp)).trans (heap_alloc_new w _))
  have HV := hide (show W.heap[vp]? = some (.cells #[.pointer (some ⟨cp, 0, none⟩)] 177 (0, 0)) by
    rw [hW, hvp]
    exact heap_alloc_new _ _)
  have hvq : vp = w.heap.size + 1 := by rw [hvp]; simp
  have NE : Hid (vp ≠ rp ∧ rv ≠ rp) := by
    have h1 := lt_of_block hR.blk
    exact ⟨by omega, by omega⟩
  have R0 := hide (hR.below XW.out)
  have L0 : Hid (LfK base rp w W) := LfK.of_below XW.out
  have T0 := hide (hT.below XW.out)
  have HK := hide hk
  clear hR hT XA hk
  have c0 : W.cell? ⟨vp, 0, none⟩ = some (.pointer (some ⟨cp, 0, none⟩)) := by rw [cell_of_row _ _ _ _ _ _ HV.out]; rfl
  have c1 : W.cell? ⟨cp, 0, none⟩ = some (.int .i64 11) := by rw [cell_of_row _ _ _ _ _ _ T0.out.blk, ← HK.out]; rfl
  have c2 : W.cell? ⟨rv, 0, none⟩ = some (.pointer (some ⟨rp, 0, none⟩)) := by rw [cell_of_row _ _ _ _ _ _ HU.out]; rfl
  go_enter Tryz.func145, Tryz.ntmps145
  go_upto_region 1 with fail
  rw [← hvq, ← hW, ← hrv]
  clear hW hrv hvp hvq XW
  go_upto_region 12 with fail
  clear c0 c1 c2
  have T := hide T0.out
  have R := hide R0.out
  have L := hide L0.out
  have V := hide HV.out
  have U := hide HU.out
  clear T0 R0 L0 HV HU
  refine wp_unt (S := fun V => V.cell? ⟨vp, 0, none⟩ = some (.pointer (some ⟨cp, 0, none⟩)) ∧ V.cell? ⟨rv, 0, none⟩ = some (.pointer (some ⟨rp, 0, none⟩))) 6 (by kernel_rfl) ?_
  have HS0 : Hid (Below W.heap.size W W.drew) := (Below.refl _ _).drew
  have T2 := hide (T.out.below HS0.out)
  have V2 := hide ((HS0.out.block vp (lt_of_block V.out)).trans V.out)
  have U2 := hide ((HS0.out.block rv (lt_of_block U.out)).trans U.out)
  have R2 := hide (R.out.below HS0.out)
  have L2 : Hid (LfK base rp w W.drew) := L.out.trans (LfK.of_below HS0.out)
  clear HS0 T V U R L
  generalize W.drew = wd at *
  have SF : Hid (∀ Y : World, Y.heap[vp]? = some (.cells #[.pointer (some ⟨cp, 0, none⟩)] 177 (0, 0)) → Y.heap[rv]? = some (.cells #[.pointer (some ⟨rp, 0, none⟩)] 102 (0, 0)) → Y.cell? ⟨vp, 0, none⟩ = some (.pointer (some ⟨cp, 0, none⟩)) ∧ Y.cell? ⟨rv, 0, none⟩ = some (.pointer (some ⟨rp, 0, none⟩))) := fun Y h1 h2 => ⟨by rw [cell_of_row _ _ _ _ _ _ h1]; rfl, by rw [cell_of_row _ _ _ _ _ _ h2]; rfl⟩
  have S2 := hide (SF.out wd V2.out U2.out)
  refine UntH.take (i := 0) (some 35) rfl rfl (by kernel_rfl) (by kernel_rfl) (by kernel_rfl) (by kernel_rfl) (fun _ _ _ _ h => h) (by rfl) S2.out ?_
  apply Exists.intro
  refine ⟨fun w' hw' => ?_, ?_⟩
  · obtain ⟨q1, q2⟩ := hw'
    go_simp
    first | done | rfl
  try simp only [Act.put, List.setIfInBounds_toArray, List.set_cons_zero, List.set_cons_succ]
  refine UntH.take (i := 1) (some 36) rfl rfl (by kernel_rfl) (by kernel_rfl) (by kernel_rfl) (by kernel_rfl) (fun _ _ _ _ h => h) (by rfl) S2.out ?_
  apply Exists.intro
  refine ⟨fun w' hw' => ?_, ?_⟩
  · obtain ⟨q1, q2⟩ := hw'
    go_simp
    first | done | rfl
  try simp only [Act.put, List.setIfInBounds_toArray, List.set_cons_zero, List.set_cons_succ]
  obtain ⟨z, hz⟩ : ∃ z, z = tok Ts (i) := ⟨_, rfl⟩
  have HZ := hide hz
  by_cases hk6 : (tok Ts (i)).k = 6
  · have HTA := hide (takeR_ok R2.out hk6 (by decide))
    have HXN : Hid (x = (takeT Ts 7 [126] (i + 1)).bind fun _ j => (takeP Ts 6 j).bind fun t l => .ok (.mk c.k z.t t.t c.pre c.sp c.ns c.kids c.p) l) := by
      unfold Hid
      rw [HX.out, takeP_ok hk6, ← hz]
      rfl
    unfold tkV at HTA
    rw [← hz] at HTA
    clear hk6 hz HX
    refine UntH.step (i := 2) (by kernel_rfl) rfl (fun K hK => ?_)
    go_simp
    refine HTA.out.mono ?_
    rintro e w3 ⟨rfl, r3, k3⟩
    have R3 := hide r3
    have T3 := hide (T2.out.rp k3 R2.out.blk)
    have L3 : Hid (LfK base rp w w3) := L2.out.trans (LfK.of_rp k3)
    have LK : Hid (LfK base rp wd w3) := LfK.of_rp k3
    have V3 := hide (LK.out.keep V2.out NE.out.1 (by decide))
    have U3 := hide (LK.out.keep U2.out NE.out.2 (by decide))
    have S3 := hide (SF.out w3 V3.out U3.out)
    refine hK _ _ S3.out ?_
    clear hK K r3 k3 R2 T2 L2 V2 U2 S2 LK HTA
    try simp only [Act.put, List.setIfInBounds_toArray, List.set_cons_zero, List.set_cons_succ]
    have hf := fld1
    refine UntH.take (i := 3) (some 38) rfl rfl (by kernel_rfl) (by kernel_rfl) (by kernel_rfl) (by kernel_rfl) (fun _ _ _ _ h => h) (by rfl) S3.out ?_
    apply Exists.intro
    refine ⟨fun w' hw' => ?_, ?_⟩
    · obtain ⟨q1, q2⟩ := hw'
      go_simp
      first | done | rfl
    try simp only [Act.put, List.setIfInBounds_toArray, List.set_cons_zero, List.set_cons_succ]
    refine UntH.take (i := 4) (some 39) rfl rfl (by kernel_rfl) (by kernel_rfl) (by kernel_rfl) (by kernel_rfl) (fun _ _ _ _ h => h) (by rfl) S3.out ?_
    apply Exists.intro
    refine ⟨fun w' hw' => ?_, ?_⟩
    · obtain ⟨q1, q2⟩ := hw'
      go_simp
      first | done | rfl
    try simp only [Act.put, List.setIfInBounds_toArray, List.set_cons_zero, List.set_cons_succ]
    refine UntH.take (i := 5) (some 40) rfl rfl (by kernel_rfl) (by kernel_rfl) (by kernel_rfl) (by kernel_rfl) (fun _ _ _ _ h => h) (by rfl) S3.out ?_
    apply Exists.intro
    refine ⟨fun w' hw' => ?_, ?_⟩
    · obtain ⟨q1, q2⟩ := hw'
      go_simp
      first | done | rfl
    try simp only [Act.put, List.setIfInBounds_toArray, List.set_cons_zero, List.set_cons_succ]
    clear hf
    have c7 : ∃ u, w3.cell? ⟨cp, 1, none⟩ = some u := ⟨_, by rw [cell_of_row _ _ _ _ _ _ T3.out.blk]; rfl⟩
    obtain ⟨u7, c7⟩ := c7
    have f7 := frozen_of_row w3 cp 1 _ _ T3.out.blk
    refine UntH.last (by kernel_rfl) rfl (by kernel_rfl) (by kernel_rfl) (fun K hK => ?_)
    go_simp
    refine hK _ _ ?_
    clear hK K c7 f7
    have LC : Hid (LfK base rp w3 (w3.setCell ⟨cp, 1, none⟩ (.string ⟨z.t.toArray⟩))) := LfK.setC T3.out.blk T3.out.bas _
    have T := hide (T3.out.setN z.t)
    have R := hide (R3.out.cp (k := 1) T3.out.blk (.string ⟨z.t.toArray⟩))
    have L : Hid (LfK base rp w (w3.setCell ⟨cp, 1, none⟩ (.string ⟨z.t.toArray⟩))) := L3.out.trans LC.out
    have V := hide (LC.out.keep V3.out NE.out.1 (by decide))
    have U := hide (LC.out.keep U3.out NE.out.2 (by decide))
    clear T3 R3 L3 V3 U3 S3 LC
    generalize (w3.setCell ⟨cp, 1, none⟩ (.string ⟨z.t.toArray⟩)) = v4 at *
    have HX := hide HXN.out
    obtain ⟨z1, hz1⟩ : ∃ z1, z1 = z.t := ⟨_, rfl⟩
    rw [← hz1] at HX T
    clear HXN HZ hz1
    go_upto_region 13 with fail
    have c2 : v4.cell? ⟨rv, 0, none⟩ = some (.pointer (some ⟨rp, 0, none⟩)) := by rw [cell_of_row _ _ _ _ _ _ U.out]; rfl
    by_cases hs : isT Ts 7 [126] (i + 1) = true
    · have HTA := hide (takeS_ok R.out hs)
      have HXN : Hid (x = (takeP Ts 6 (i + 1 + 1)).bind fun t l => .ok (.mk c.k z1 t.t c.pre c.sp c.ns c.kids c.p) l) := by
        unfold Hid
        rw [HX.out, takeT_ok hs]
        rfl
      clear hs HX
      go_upto_region 14 with (go_at_call 75; refine HTA.out.mono ?_; rintro e v5 ⟨rfl, r3, k3⟩; have R3 := hide r3; have K3 := hide k3; clear r3 k3)
      have LC : Hid (LfK base rp v4 v5) := LfK.of_rp K3.out
      have T3 := hide (T.out.rp K3.out R.out.blk)
      have L3 : Hid (LfK base rp w v5) := L.out.trans LC.out
      have V3 := hide (LC.out.keep V.out NE.out.1 (by decide))
      have U3 := hide (LC.out.keep U.out NE.out.2 (by decide))
      have HX := hide HXN.out
      clear T R L V U K3 LC HTA HXN c2
      have T := hide T3.out
      have R := hide R3.out
      have L := hide L3.out
      have V := hide V3.out
      have U := hide U3.out
      clear T3 R3 L3 V3 U3
      refine wp_unt (S := fun V => V.cell? ⟨vp, 0, none⟩ = some (.pointer (some ⟨cp, 0, none⟩)) ∧ V.cell? ⟨rv, 0, none⟩ = some (.pointer (some ⟨rp, 0, none⟩))) 6 (by kernel_rfl) ?_
      have HS0 : Hid (Below v5.heap.size v5 v5.drew) := (Below.refl _ _).drew
      have T2 := hide (T.out.below HS0.out)
      have V2 := hide ((HS0.out.block vp (lt_of_block V.out)).trans V.out)
      have U2 := hide ((HS0.out.block rv (lt_of_block U.out)).trans U.out)
      have R2 := hide (R.out.below HS0.out)
      have L2 : Hid (LfK base rp w v5.drew) := L.out.trans (LfK.of_below HS0.out)
      clear HS0 T V U R L
      generalize v5.drew = wd at *
      have SF : Hid (∀ Y : World, Y.heap[vp]? = some (.cells #[.pointer (some ⟨cp, 0, none⟩)] 177 (0, 0)) → Y.heap[rv]? = some (.cells #[.pointer (some ⟨rp, 0, none⟩)] 102 (0, 0)) → Y.cell? ⟨vp, 0, none⟩ = some (.pointer (some ⟨cp, 0, none⟩)) ∧ Y.cell? ⟨rv, 0, none⟩ = some (.pointer (some ⟨rp, 0, none⟩))) := fun Y h1 h2 => ⟨by rw [cell_of_row _ _ _ _ _ _ h1]; rfl, by rw [cell_of_row _ _ _ _ _ _ h2]; rfl⟩
      have S2 := hide (SF.out wd V2.out U2.out)
      refine UntH.take (i := 0) (some 43) rfl rfl (by kernel_rfl) (by kernel_rfl) (by kernel_rfl) (by kernel_rfl) (fun _ _ _ _ h => h) (by rfl) S2.out ?_
      apply Exists.intro
      refine ⟨fun w' hw' => ?_, ?_⟩
      · obtain ⟨q1, q2⟩ := hw'
        go_simp
        first | done | rfl
      try simp only [Act.put, List.setIfInBounds_toArray, List.set_cons_zero, List.set_cons_succ]
      refine UntH.take (i := 1) (some 44) rfl rfl (by kernel_rfl) (by kernel_rfl) (by kernel_rfl) (by kernel_rfl) (fun _ _ _ _ h => h) (by rfl) S2.out ?_
      apply Exists.intro
      refine ⟨fun w' hw' => ?_, ?_⟩
      · obtain ⟨q1, q2⟩ := hw'
        go_simp
        first | done | rfl
      try simp only [Act.put, List.setIfInBounds_toArray, List.set_cons_zero, List.set_cons_succ]
      obtain ⟨z, hz⟩ : ∃ z, z = tok Ts (i + 1 + 1) := ⟨_, rfl⟩
      have HZ := hide hz
      by_cases hk6 : (tok Ts (i + 1 + 1)).k = 6
      · have HTA := hide (takeR_ok R2.out hk6 (by decide))
        have HXN : Hid (x = .ok (.mk c.k z1 z.t c.pre c.sp c.ns c.kids c.p) (i + 1 + 1 + 1)) := by
          unfold Hid
          rw [HX.out, takeP_ok hk6, ← hz]
          rfl
        unfold tkV at HTA
        rw [← hz] at HTA
        clear hk6 hz HX
        refine UntH.step (i := 2) (by kernel_rfl) rfl (fun K hK => ?_)
        go_simp
        refine HTA.out.mono ?_
        rintro e w3 ⟨rfl, r3, k3⟩
        have R3 := hide r3
        have T3 := hide (T2.out.rp k3 R2.out.blk)
        have L3 : Hid (LfK base rp w w3) := L2.out.trans (LfK.of_rp k3)
        have LK : Hid (LfK base rp wd w3) := LfK.of_rp k3
        have V3 := hide (LK.out.keep V2.out NE.out.1 (by decide))
        have U3 := hide (LK.out.keep U2.out NE.out.2 (by decide))
        have S3 := hide (SF.out w3 V3.out U3.out)
        refine hK _ _ S3.out ?_
        clear hK K r3 k3 R2 T2 L2 V2 U2 S2 LK HTA
        try simp only [Act.put, List.setIfInBounds_toArray, List.set_cons_zero, List.set_cons_succ]
        have hf := fld1
        refine UntH.take (i := 3) (some 46) rfl rfl (by kernel_rfl) (by kernel_rfl) (by kernel_rfl) (by kernel_rfl) (fun _ _ _ _ h => h) (by rfl) S3.out ?_
        apply Exists.intro
        refine ⟨fun w' hw' => ?_, ?_⟩
        · obtain ⟨q1, q2⟩ := hw'
          go_simp
          first | done | rfl
        try simp only [Act.put, List.setIfInBounds_toArray, List.set_cons_zero, List.set_cons_succ]
        refine UntH.take (i := 4) (some 47) rfl rfl (by kernel_rfl) (by kernel_rfl) (by kernel_rfl) (by kernel_rfl) (fun _ _ _ _ h => h) (by rfl) S3.out ?_
        apply Exists.intro
        refine ⟨fun w' hw' => ?_, ?_⟩
        · obtain ⟨q1, q2⟩ := hw'
          go_simp
          first | done | rfl
        try simp only [Act.put, List.setIfInBounds_toArray, List.set_cons_zero, List.set_cons_succ]
        refine UntH.take (i := 5) (some 48) rfl rfl (by kernel_rfl) (by kernel_rfl) (by kernel_rfl) (by kernel_rfl) (fun _ _ _ _ h => h) (by rfl) S3.out ?_
        apply Exists.intro
        refine ⟨fun w' hw' => ?_, ?_⟩
        · obtain ⟨q1, q2⟩ := hw'
          go_simp
          first | done | rfl
        try simp only [Act.put, List.setIfInBounds_toArray, List.set_cons_zero, List.set_cons_succ]
        clear hf
        have c7 : ∃ u, w3.cell? ⟨cp, 2, none⟩ = some u := ⟨_, by rw [cell_of_row _ _ _ _ _ _ T3.out.blk]; rfl⟩
        obtain ⟨u7, c7⟩ := c7
        have f7 := frozen_of_row w3 cp 2 _ _ T3.out.blk
        refine UntH.last (by kernel_rfl) rfl (by kernel_rfl) (by kernel_rfl) (fun K hK => ?_)
        go_simp
        refine hK _ _ ?_
        clear hK K c7 f7
        have LC : Hid (LfK base rp w3 (w3.setCell ⟨cp, 2, none⟩ (.string ⟨z.t.toArray⟩))) := LfK.setC T3.out.blk T3.out.bas _
        have T := hide (T3.out.setT z.t)
        have R := hide (R3.out.cp (k := 2) T3.out.blk (.string ⟨z.t.toArray⟩))
        have L : Hid (LfK base rp w (w3.setCell ⟨cp, 2, none⟩ (.string ⟨z.t.toArray⟩))) := L3.out.trans LC.out
        have V := hide (LC.out.keep V3.out NE.out.1 (by decide))
        have U := hide (LC.out.keep U3.out NE.out.2 (by decide))
        clear T3 R3 L3 V3 U3 S3 LC
        generalize (w3.setCell ⟨cp, 2, none⟩ (.string ⟨z.t.toArray⟩)) = v6 at *
        go_wp2
        go_end0
        exact PostL.okI HXN.out rfl ⟨_, _, _, T.out⟩ R.out L.out
      · have HTA := hide (takeR_bad R2.out hk6)
        have HXN : Hid (x = .bad 90 z.p) := by
          unfold Hid
          rw [HX.out, takeP_bad hk6, ← hz]
          rfl
        rw [← hz] at HTA
        clear hk6 hz HX
        refine UntH.step (i := 2) (by kernel_rfl) rfl (fun K hK => ?_)
        go_simp
        refine HTA.out.mono ?_
        rintro e w3 ⟨he, x3⟩
        unfold pan at he
        subst he
        exact ⟨rfl, PostL.badI HXN.out rfl (L2.out.trans (LfK.of_below x3))⟩
    · have HTA := hide (takeS_bad R.out hs)
      have HXN : Hid (x = .bad 90 (tok Ts (i + 1)).p) := by
        unfold Hid
        rw [HX.out, takeT_bad hs]
        rfl
      generalize (tok Ts (i + 1)).p = zp at *
      clear hs HX
      go_wp2_with (go_at_call 75; refine HTA.out.mono ?_; rintro e w3 ⟨he, x3⟩; unfold pan at he; subst he; have X3 := hide x3; clear x3)
      exact ⟨rfl, PostL.badI HXN.out rfl (L.out.trans (LfK.of_below X3.out))⟩
  · have HTA := hide (takeR_bad R2.out hk6)
    have HXN : Hid (x = .bad 90 z.p) := by
      unfold Hid
      rw [HX.out, takeP_bad hk6, ← hz]
      rfl
    rw [← hz] at HTA
    clear hk6 hz HX
    refine UntH.step (i := 2) (by kernel_rfl) rfl (fun K hK => ?_)
    go_simp
    refine HTA.out.mono ?_
    rintro e w3 ⟨he, x3⟩
    unfold pan at he
    subst he
    exact ⟨rfl, PostL.badI HXN.out rfl (L2.out.trans (LfK.of_below x3))⟩
set_option maxRecDepth 100000 in
set_option maxHeartbeats 2000000 in
theorem rest_has {w : World} {base cp rbase rp g cap : Nat} {Ts : List Tk} {f i : Nat} {c : CT} {v3 v4 v5 : Value} (hk : c.k = 12) (hT : TcA w base cp c v3 v4 v5) (hR : RdA w rbase rp g cap Ts i) : Calls Tryz.prog 145 #[.pointer (some ⟨rp, 0, none⟩), .pointer (some ⟨cp, 0, none⟩)] w (PostL base cp rbase rp g cap Ts w (restP Ts f c i)) := by
  obtain ⟨x, hx⟩ : ∃ x, x = restP Ts f c i := ⟨_, rfl⟩
  rw [← hx]
  have HX : Hid (x = (takeP Ts 6 i).bind fun u h => .ok (.mk c.k u.t c.tx c.pre c.sp c.ns c.kids c.p) h) := by
    unfold Hid
    rw [hx]
    unfold restP
    rw [if_neg (by rw [hk]; decide), if_neg (by rw [hk]; decide), if_neg (by rw [hk]; decide), if_neg (by rw [hk]; decide), if_neg (by rw [hk]; decide), if_pos hk]
  clear hx
  have XA := hide (show Below w.heap.size w (w.alloc (.cells #[.pointer (some ⟨rp, 0, none⟩)] 102)) from al (Below.refl _ _) _)
  obtain ⟨W, hW⟩ : ∃ W, W = (w.alloc (.cells #[.pointer (some ⟨rp, 0, none⟩)] 102)).alloc (.cells #[.pointer (some ⟨cp, 0, none⟩)] 177) := ⟨_, rfl⟩
  have XW := hide (show Below w.heap.size w W by rw [hW]; exact al XA.out _)
  obtain ⟨rv, hrv⟩ : ∃ rv, rv = w.heap.size := ⟨_, rfl⟩
  obtain ⟨vp, hvp⟩ : ∃ vp, vp = (w.alloc (.cells #[.pointer (some ⟨rp, 0, none⟩)] 102)).heap.size := ⟨_, rfl⟩
  have HU := hide (show W.heap[rv]? = some (.cells #[.pointer (some ⟨rp, 0, none⟩)] 102 (0, 0)) by
    rw [hW, hrv]
    exact (heap_alloc_old _ _ (by simp)).trans (heap_alloc_new w _))
  have HV := hide (show W.heap[vp]? = some (.cells #[.pointer (some ⟨cp, 0, none⟩)] 177 (0, 0)) by
    rw [hW, hvp]
    exact heap_alloc_new _ _)
  have hvq : vp = w.heap.size + 1 := by rw [hvp]; simp
  have NE : Hid (vp ≠ rp ∧ rv ≠ rp) := by
    have h1 := lt_of_block hR.blk
    exact ⟨by omega, by omega⟩
  have R0 := hide (hR.below XW.out)
  have L0 : Hid (LfK base rp w W) := LfK.of_below XW.out
  have T0 := hide (hT.below XW.out)
  have HK := hide hk
  clear hR hT XA hk
  have c0 : W.cell? ⟨vp, 0, none⟩ = some (.pointer (some ⟨cp, 0, none⟩)) := by rw [cell_of_row _ _ _ _ _ _ HV.out]; rfl
  have c1 : W.cell? ⟨cp, 0, none⟩ = some (.int .i64 12) := by rw [cell_of_row _ _ _ _ _ _ T0.out.blk, ← HK.out]; rfl
  have c2 : W.cell? ⟨rv, 0, none⟩ = some (.pointer (some ⟨rp, 0, none⟩)) := by rw [cell_of_row _ _ _ _ _ _ HU.out]; rfl
  go_enter Tryz.func145, Tryz.ntmps145
  go_upto_region 1 with fail
  rw [← hvq, ← hW, ← hrv]
  clear hW hrv hvp hvq XW
  go_upto_region 16 with fail
  clear c0 c1 c2
  have T := hide T0.out
  have R := hide R0.out
  have L := hide L0.out
  have V := hide HV.out
  have U := hide HU.out
  clear T0 R0 L0 HV HU
  refine wp_unt (S := fun V => V.cell? ⟨vp, 0, none⟩ = some (.pointer (some ⟨cp, 0, none⟩)) ∧ V.cell? ⟨rv, 0, none⟩ = some (.pointer (some ⟨rp, 0, none⟩))) 6 (by kernel_rfl) ?_
  have HS0 : Hid (Below W.heap.size W W.drew) := (Below.refl _ _).drew
  have T2 := hide (T.out.below HS0.out)
  have V2 := hide ((HS0.out.block vp (lt_of_block V.out)).trans V.out)
  have U2 := hide ((HS0.out.block rv (lt_of_block U.out)).trans U.out)
  have R2 := hide (R.out.below HS0.out)
  have L2 : Hid (LfK base rp w W.drew) := L.out.trans (LfK.of_below HS0.out)
  clear HS0 T V U R L
  generalize W.drew = wd at *
  have SF : Hid (∀ Y : World, Y.heap[vp]? = some (.cells #[.pointer (some ⟨cp, 0, none⟩)] 177 (0, 0)) → Y.heap[rv]? = some (.cells #[.pointer (some ⟨rp, 0, none⟩)] 102 (0, 0)) → Y.cell? ⟨vp, 0, none⟩ = some (.pointer (some ⟨cp, 0, none⟩)) ∧ Y.cell? ⟨rv, 0, none⟩ = some (.pointer (some ⟨rp, 0, none⟩))) := fun Y h1 h2 => ⟨by rw [cell_of_row _ _ _ _ _ _ h1]; rfl, by rw [cell_of_row _ _ _ _ _ _ h2]; rfl⟩
  have S2 := hide (SF.out wd V2.out U2.out)
  refine UntH.take (i := 0) (some 51) rfl rfl (by kernel_rfl) (by kernel_rfl) (by kernel_rfl) (by kernel_rfl) (fun _ _ _ _ h => h) (by rfl) S2.out ?_
  apply Exists.intro
  refine ⟨fun w' hw' => ?_, ?_⟩
  · obtain ⟨q1, q2⟩ := hw'
    go_simp
    first | done | rfl
  try simp only [Act.put, List.setIfInBounds_toArray, List.set_cons_zero, List.set_cons_succ]
  refine UntH.take (i := 1) (some 52) rfl rfl (by kernel_rfl) (by kernel_rfl) (by kernel_rfl) (by kernel_rfl) (fun _ _ _ _ h => h) (by rfl) S2.out ?_
  apply Exists.intro
  refine ⟨fun w' hw' => ?_, ?_⟩
  · obtain ⟨q1, q2⟩ := hw'
    go_simp
    first | done | rfl
  try simp only [Act.put, List.setIfInBounds_toArray, List.set_cons_zero, List.set_cons_succ]
  obtain ⟨z, hz⟩ : ∃ z, z = tok Ts (i) := ⟨_, rfl⟩
  have HZ := hide hz
  by_cases hk6 : (tok Ts (i)).k = 6
  · have HTA := hide (takeR_ok R2.out hk6 (by decide))
    have HXN : Hid (x = .ok (.mk c.k z.t c.tx c.pre c.sp c.ns c.kids c.p) (i + 1)) := by
      unfold Hid
      rw [HX.out, takeP_ok hk6, ← hz]
      rfl
    unfold tkV at HTA
    rw [← hz] at HTA
    clear hk6 hz HX
    refine UntH.step (i := 2) (by kernel_rfl) rfl (fun K hK => ?_)
    go_simp
    refine HTA.out.mono ?_
    rintro e w3 ⟨rfl, r3, k3⟩
    have R3 := hide r3
    have T3 := hide (T2.out.rp k3 R2.out.blk)
    have L3 : Hid (LfK base rp w w3) := L2.out.trans (LfK.of_rp k3)
    have LK : Hid (LfK base rp wd w3) := LfK.of_rp k3
    have V3 := hide (LK.out.keep V2.out NE.out.1 (by decide))
    have U3 := hide (LK.out.keep U2.out NE.out.2 (by decide))
    have S3 := hide (SF.out w3 V3.out U3.out)
    refine hK _ _ S3.out ?_
    clear hK K r3 k3 R2 T2 L2 V2 U2 S2 LK HTA
    try simp only [Act.put, List.setIfInBounds_toArray, List.set_cons_zero, List.set_cons_succ]
    have hf := fld1
    refine UntH.take (i := 3) (some 54) rfl rfl (by kernel_rfl) (by kernel_rfl) (by kernel_rfl) (by kernel_rfl) (fun _ _ _ _ h => h) (by rfl) S3.out ?_
    apply Exists.intro
    refine ⟨fun w' hw' => ?_, ?_⟩
    · obtain ⟨q1, q2⟩ := hw'
      go_simp
      first | done | rfl
    try simp only [Act.put, List.setIfInBounds_toArray, List.set_cons_zero, List.set_cons_succ]
    refine UntH.take (i := 4) (some 55) rfl rfl (by kernel_rfl) (by kernel_rfl) (by kernel_rfl) (by kernel_rfl) (fun _ _ _ _ h => h) (by rfl) S3.out ?_
    apply Exists.intro
    refine ⟨fun w' hw' => ?_, ?_⟩
    · obtain ⟨q1, q2⟩ := hw'
      go_simp
      first | done | rfl
    try simp only [Act.put, List.setIfInBounds_toArray, List.set_cons_zero, List.set_cons_succ]
    refine UntH.take (i := 5) (some 56) rfl rfl (by kernel_rfl) (by kernel_rfl) (by kernel_rfl) (by kernel_rfl) (fun _ _ _ _ h => h) (by rfl) S3.out ?_
    apply Exists.intro
    refine ⟨fun w' hw' => ?_, ?_⟩
    · obtain ⟨q1, q2⟩ := hw'
      go_simp
      first | done | rfl
    try simp only [Act.put, List.setIfInBounds_toArray, List.set_cons_zero, List.set_cons_succ]
    clear hf
    have c7 : ∃ u, w3.cell? ⟨cp, 1, none⟩ = some u := ⟨_, by rw [cell_of_row _ _ _ _ _ _ T3.out.blk]; rfl⟩
    obtain ⟨u7, c7⟩ := c7
    have f7 := frozen_of_row w3 cp 1 _ _ T3.out.blk
    refine UntH.last (by kernel_rfl) rfl (by kernel_rfl) (by kernel_rfl) (fun K hK => ?_)
    go_simp
    refine hK _ _ ?_
    clear hK K c7 f7
    have LC : Hid (LfK base rp w3 (w3.setCell ⟨cp, 1, none⟩ (.string ⟨z.t.toArray⟩))) := LfK.setC T3.out.blk T3.out.bas _
    have T := hide (T3.out.setN z.t)
    have R := hide (R3.out.cp (k := 1) T3.out.blk (.string ⟨z.t.toArray⟩))
    have L : Hid (LfK base rp w (w3.setCell ⟨cp, 1, none⟩ (.string ⟨z.t.toArray⟩))) := L3.out.trans LC.out
    have V := hide (LC.out.keep V3.out NE.out.1 (by decide))
    have U := hide (LC.out.keep U3.out NE.out.2 (by decide))
    clear T3 R3 L3 V3 U3 S3 LC
    generalize (w3.setCell ⟨cp, 1, none⟩ (.string ⟨z.t.toArray⟩)) = v7 at *
    go_wp2
    go_end0
    exact PostL.okI HXN.out rfl ⟨_, _, _, T.out⟩ R.out L.out
  · have HTA := hide (takeR_bad R2.out hk6)
    have HXN : Hid (x = .bad 90 z.p) := by
      unfold Hid
      rw [HX.out, takeP_bad hk6, ← hz]
      rfl
    rw [← hz] at HTA
    clear hk6 hz HX
    refine UntH.step (i := 2) (by kernel_rfl) rfl (fun K hK => ?_)
    go_simp
    refine HTA.out.mono ?_
    rintro e w3 ⟨he, x3⟩
    unfold pan at he
    subst he
    exact ⟨rfl, PostL.badI HXN.out rfl (L2.out.trans (LfK.of_below x3))⟩
set_option maxRecDepth 100000 in
set_option maxHeartbeats 2000000 in
theorem rest_true {w : World} {base cp rbase rp g cap : Nat} {Ts : List Tk} {f i : Nat} {c : CT} {v3 v4 v5 : Value} (hk : c.k = 1) (hT : TcA w base cp c v3 v4 v5) (hR : RdA w rbase rp g cap Ts i) : Calls Tryz.prog 145 #[.pointer (some ⟨rp, 0, none⟩), .pointer (some ⟨cp, 0, none⟩)] w (PostL base cp rbase rp g cap Ts w (restP Ts f c i)) := by
  obtain ⟨x, hx⟩ : ∃ x, x = restP Ts f c i := ⟨_, rfl⟩
  rw [← hx]
  have HX : Hid (x = .ok c i) := by
    unfold Hid
    rw [hx]
    unfold restP
    rw [if_neg (by rw [hk]; decide), if_neg (by rw [hk]; decide), if_neg (by rw [hk]; decide), if_neg (by rw [hk]; decide), if_neg (by rw [hk]; decide), if_neg (by rw [hk]; decide)]
  clear hx
  have XA := hide (show Below w.heap.size w (w.alloc (.cells #[.pointer (some ⟨rp, 0, none⟩)] 102)) from al (Below.refl _ _) _)
  obtain ⟨W, hW⟩ : ∃ W, W = (w.alloc (.cells #[.pointer (some ⟨rp, 0, none⟩)] 102)).alloc (.cells #[.pointer (some ⟨cp, 0, none⟩)] 177) := ⟨_, rfl⟩
  have XW := hide (show Below w.heap.size w W by rw [hW]; exact al XA.out _)
  obtain ⟨rv, hrv⟩ : ∃ rv, rv = w.heap.size := ⟨_, rfl⟩
  obtain ⟨vp, hvp⟩ : ∃ vp, vp = (w.alloc (.cells #[.pointer (some ⟨rp, 0, none⟩)] 102)).heap.size := ⟨_, rfl⟩
  have HU := hide (show W.heap[rv]? = some (.cells #[.pointer (some ⟨rp, 0, none⟩)] 102 (0, 0)) by
    rw [hW, hrv]
    exact (heap_alloc_old _ _ (by simp)).trans (heap_alloc_new w _))
  have HV := hide (show W.heap[vp]? = some (.cells #[.pointer (some ⟨cp, 0, none⟩)] 177 (0, 0)) by
    rw [hW, hvp]
    exact heap_alloc_new _ _)
  have hvq : vp = w.heap.size + 1 := by rw [hvp]; simp
  have NE : Hid (vp ≠ rp ∧ rv ≠ rp) := by
    have h1 := lt_of_block hR.blk
    exact ⟨by omega, by omega⟩
  have R0 := hide (hR.below XW.out)
  have L0 : Hid (LfK base rp w W) := LfK.of_below XW.out
  have T0 := hide (hT.below XW.out)
  have HK := hide hk
  clear hR hT XA hk
  have c0 : W.cell? ⟨vp, 0, none⟩ = some (.pointer (some ⟨cp, 0, none⟩)) := by rw [cell_of_row _ _ _ _ _ _ HV.out]; rfl
  have c1 : W.cell? ⟨cp, 0, none⟩ = some (.int .i64 1) := by rw [cell_of_row _ _ _ _ _ _ T0.out.blk, ← HK.out]; rfl
  have c2 : W.cell? ⟨rv, 0, none⟩ = some (.pointer (some ⟨rp, 0, none⟩)) := by rw [cell_of_row _ _ _ _ _ _ HU.out]; rfl
  go_enter Tryz.func145, Tryz.ntmps145
  go_upto_region 1 with fail
  rw [← hvq, ← hW, ← hrv]
  clear hW hrv hvp hvq XW
  go_wp2
  go_end0
  exact PostL.okI HX.out rfl ⟨_, _, _, T0.out⟩ R0.out L0.out
set_option maxRecDepth 100000 in
set_option maxHeartbeats 2000000 in
theorem rest_false {w : World} {base cp rbase rp g cap : Nat} {Ts : List Tk} {f i : Nat} {c : CT} {v3 v4 v5 : Value} (hk : c.k = 2) (hT : TcA w base cp c v3 v4 v5) (hR : RdA w rbase rp g cap Ts i) : Calls Tryz.prog 145 #[.pointer (some ⟨rp, 0, none⟩), .pointer (some ⟨cp, 0, none⟩)] w (PostL base cp rbase rp g cap Ts w (restP Ts f c i)) := by
  obtain ⟨x, hx⟩ : ∃ x, x = restP Ts f c i := ⟨_, rfl⟩
  rw [← hx]
  have HX : Hid (x = .ok c i) := by
    unfold Hid
    rw [hx]
    unfold restP
    rw [if_neg (by rw [hk]; decide), if_neg (by rw [hk]; decide), if_neg (by rw [hk]; decide), if_neg (by rw [hk]; decide), if_neg (by rw [hk]; decide), if_neg (by rw [hk]; decide)]
  clear hx
  have XA := hide (show Below w.heap.size w (w.alloc (.cells #[.pointer (some ⟨rp, 0, none⟩)] 102)) from al (Below.refl _ _) _)
  obtain ⟨W, hW⟩ : ∃ W, W = (w.alloc (.cells #[.pointer (some ⟨rp, 0, none⟩)] 102)).alloc (.cells #[.pointer (some ⟨cp, 0, none⟩)] 177) := ⟨_, rfl⟩
  have XW := hide (show Below w.heap.size w W by rw [hW]; exact al XA.out _)
  obtain ⟨rv, hrv⟩ : ∃ rv, rv = w.heap.size := ⟨_, rfl⟩
  obtain ⟨vp, hvp⟩ : ∃ vp, vp = (w.alloc (.cells #[.pointer (some ⟨rp, 0, none⟩)] 102)).heap.size := ⟨_, rfl⟩
  have HU := hide (show W.heap[rv]? = some (.cells #[.pointer (some ⟨rp, 0, none⟩)] 102 (0, 0)) by
    rw [hW, hrv]
    exact (heap_alloc_old _ _ (by simp)).trans (heap_alloc_new w _))
  have HV := hide (show W.heap[vp]? = some (.cells #[.pointer (some ⟨cp, 0, none⟩)] 177 (0, 0)) by
    rw [hW, hvp]
    exact heap_alloc_new _ _)
  have hvq : vp = w.heap.size + 1 := by rw [hvp]; simp
  have NE : Hid (vp ≠ rp ∧ rv ≠ rp) := by
    have h1 := lt_of_block hR.blk
    exact ⟨by omega, by omega⟩
  have R0 := hide (hR.below XW.out)
  have L0 : Hid (LfK base rp w W) := LfK.of_below XW.out
  have T0 := hide (hT.below XW.out)
  have HK := hide hk
  clear hR hT XA hk
  have c0 : W.cell? ⟨vp, 0, none⟩ = some (.pointer (some ⟨cp, 0, none⟩)) := by rw [cell_of_row _ _ _ _ _ _ HV.out]; rfl
  have c1 : W.cell? ⟨cp, 0, none⟩ = some (.int .i64 2) := by rw [cell_of_row _ _ _ _ _ _ T0.out.blk, ← HK.out]; rfl
  have c2 : W.cell? ⟨rv, 0, none⟩ = some (.pointer (some ⟨rp, 0, none⟩)) := by rw [cell_of_row _ _ _ _ _ _ HU.out]; rfl
  go_enter Tryz.func145, Tryz.ntmps145
  go_upto_region 1 with fail
  rw [← hvq, ← hW, ← hrv]
  clear hW hrv hvp hvq XW
  go_wp2
  go_end0
  exact PostL.okI HX.out rfl ⟨_, _, _, T0.out⟩ R0.out L0.out
theorem rest_any {w : World} {base cp rbase rp g cap : Nat} {Ts : List Tk} {f i : Nat} {c : CT} {v3 v4 v5 : Value} (hk : c.k = 1 ∨ c.k = 2 ∨ c.k = 7 ∨ c.k = 8 ∨ c.k = 9 ∨ c.k = 10 ∨ c.k = 11 ∨ c.k = 12) (hT : TcA w base cp c v3 v4 v5) (hR : RdA w rbase rp g cap Ts i) (h0 : szC c = 0) (hne : restP Ts f c i ≠ .out) : Calls Tryz.prog 145 #[.pointer (some ⟨rp, 0, none⟩), .pointer (some ⟨cp, 0, none⟩)] w (PostL base cp rbase rp g cap Ts w (restP Ts f c i)) := by
  rcases hk with hk | hk | hk | hk | hk | hk | hk | hk
  · exact rest_true hk hT hR
  · exact rest_false hk hT hR
  · exact rest_addr hk hT hR h0 hne
  · exact rest_port hk hT hR h0 hne
  · exact rest_method hk hT hR h0 hne
  · exact rest_path hk hT hR
  · exact rest_header hk hT hR
  · exact rest_has hk hT hR
end Go.Proofs.YtlmhofjiobmodaaGreatDoor
