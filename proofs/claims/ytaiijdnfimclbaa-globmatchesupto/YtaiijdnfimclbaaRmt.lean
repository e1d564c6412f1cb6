/-
  The document's Match by its contract. Condition: lists and the text are no longer than a process can hold.
-/
import Derived.Test.YtaiijdnfimclbaaRsp
namespace Go.Proofs.Ytaiijdnfimclbaa
open Go.RowKit Go.Lib

set_option maxRecDepth 100000 in
set_option maxHeartbeats 8000000 in
theorem refMatch_any (ao : Option Addr) (cap : Nat) (D : List PD) (s : By) (w : World) (hs : s.length ≤ 140737488351232) (hLen : ∀ d ∈ D, d.p.set.length ≤ 140737488351232) (hat : PcAt w ao D) :
    Calls Try.prog 20 #[.slice ao D.length cap, .string ⟨s.toArray⟩] w fun e w' => MaIs (D.map PD.p) s e ∧ Below w.heap.size w w' := by
  have HR := hide (refRightP_any ao cap D w hLen hat)
  have HAT := hide hat
  have HLEN := hide hLen
  clear hat hLen
  go_enter Try.func20, Try.ntmps20
  go_wp2_with (fail)
  refine HR.out.mono ?_
  rintro e w1 ⟨h1, x1⟩
  have X1 := hide x1
  clear x1
  rcases h1 with ⟨hp, rfl⟩ | ⟨hp, rfl⟩
  · have HRT := hide hp
    have hl : D.length ≤ 64 := by simpa using hp.1
    clear hp
    have HBG := hide (refBegin_any ao cap D w1 hl (HAT.out.below X1.out))
    go_wp2_with (go_at_call 38; refine HBG.out.mono ?_; rintro e w2 ⟨rfl, m2, x2⟩; have M2 := hide m2; have X2 := hide (bt X1.out x2 (Nat.le_refl _)); clear m2 x2)
    have HE0 : Hid (clF (D.map PD.p) (upd (fun _ => false) 0) D.length = mtF (D.map PD.p) (s.take 0)) := by unfold Hid mtF; rw [List.take_zero, List.foldl_nil, List.length_map]
    rw [HE0.out] at M2
    have HST := hide (fun g f c W (x : Below w.heap.size w W) (m : MkAt W g (D.length + 1) f) => refStep_any ao cap g D f c W hl (fun d hd => HRT.out.2.1 _ (List.mem_map.2 ⟨d, hd, rfl⟩)) HLEN.out (HAT.out.below x) m)
    go_loopw [7, 8] (fun y x wr => ∃ (k g : Nat), k ≤ s.length ∧ y = .slice (some ⟨g, 0, none⟩) (D.length + 1) (D.length + 1) ∧ x = .int .i64 k ∧ Hid (MkAt wr g (D.length + 1) (mtF (D.map PD.p) (s.take k))) ∧ Hid (Below w.heap.size w wr)) (fun _ x _ => s.length - (RowKit.intOf x).toNat)
    case atStart => exact ⟨0, _, Nat.zero_le _, rfl, rfl, M2, X2⟩
    case round =>
      obtain ⟨k, g, hk, rfl, rfl, M, X⟩ := hrel
      rename World => wr
      by_cases hlt : k < s.length
      · have hlt' : (k : Int) < (s.length : Int) := by omega
        obtain ⟨c, hcc⟩ : ∃ c, s[k] = c := ⟨_, rfl⟩
        have hg' : ∀ hk, (⟨s.toArray⟩ : ByteArray)[k]'hk = c := fun _ => hcc
        have HTS : Hid (stF (D.map PD.p) (mtF (D.map PD.p) (s.take k)) c = mtF (D.map PD.p) (s.take (k + 1))) := by unfold Hid; rw [← hcc, ← mtF_snoc]; congr 1; exact (List.take_succ_eq_append_getElem hlt).symm
        have HS := hide (HST.out g _ c wr X.out M.out)
        rw [HTS.out] at HS
        clear hcc
        go_wp2_with (go_at_call 39; refine HS.out.mono ?_; rintro e w5 ⟨rfl, m5, x5⟩; have M5 := hide m5; have X5 := hide (bt X.out x5 (Nat.le_refl _)); clear m5 x5)
        go_roundw
        case rel => exact ⟨k + 1, _, by omega, rfl, by go_num, M5, X5⟩
        case measure => simp [RowKit.intOf]; omega
      · have hnl : ¬ (k : Int) < (s.length : Int) := by omega
        have hkl : k = s.length := by omega
        subst hkl
        rw [List.take_length] at M
        have hn : (D.length : Int) < (D.length : Int) + 1 := by omega
        obtain ⟨c0, _⟩ := M.out.cell (show D.length < D.length + 1 by omega)
        go_wp2
        go_ret2
        exact ⟨.inl ⟨HRT.out, by rw [List.length_map]; rfl⟩, X.out⟩
  · have HN := hide hp
    clear hp
    go_wp2
    go_ret2
    exact ⟨.inr ⟨HN.out, rfl⟩, X1.out⟩
end Go.Proofs.Ytaiijdnfimclbaa
