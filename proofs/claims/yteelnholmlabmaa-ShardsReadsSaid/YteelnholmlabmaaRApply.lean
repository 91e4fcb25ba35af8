/- What the reference's Apply answers. -/
import Derived.Test.YteelnholmlabmaaROne
import Derived.Test.YteelnholmlabmaaRSound
namespace Go.Proofs.Yteelnholmlabmaa
open Go.RowKit

theorem oneGo_len (c : Chg) : ∀ (l : List (K × K)) (put : Bool), (oneGo c put l).length + (if put then 1 else 0) ≤ l.length + 1
  | [], put => by cases put <;> simp [oneGo]
  | p :: r, put => by
    have h := oneGo_len c r (put || decide (c.key ≤ p.1))
    rw [oneGo]
    cases put
    · by_cases hk : c.key ≤ p.1
      · simp only [Bool.not_false, Bool.true_and, hk, decide_true, if_true, Bool.false_or, List.length_append, List.length_cons, List.length_nil, Bool.false_eq_true, if_false] at h ⊢
        split <;> simp <;> omega
      · simp only [Bool.not_false, Bool.true_and, hk, decide_false, Bool.false_or, List.length_append, List.length_cons, List.length_nil, Bool.false_eq_true, if_false] at h ⊢
        split <;> simp <;> omega
    · simp only [Bool.not_true, Bool.false_and, Bool.true_or, if_true, List.length_append, List.length_cons, List.length_nil, Bool.false_eq_true, if_false] at h ⊢
      split <;> simp <;> omega
theorem oneP_len (l : List (K × K)) (c : Chg) : (oneP l c).length ≤ l.length + 1 := by
  have h := oneGo_len c l (!decide (c.kind = 1))
  unfold oneP
  omega
/-- pairs behind changes -/
def applyP (l : List (K × K)) (cs : List Chg) : List (K × K) := cs.foldl oneP l

set_option maxHeartbeats 2000000 in
set_option maxRecDepth 100000 in
theorem rapply_any (l : List (K × K)) (cs : List Chg) (hs : ∀ p ∈ l, p.1.size < 4611686018427387904 ∧ p.2.size < 4611686018427387904) (hcs : ∀ c ∈ cs, smallC c) (v vc : Value) (w : World) (hv : RdP w w.heap.size v l) (hvc : RdC w w.heap.size vc cs) (hl : l.length + cs.length ≤ 7036874416000) :
    Calls Try.prog 24 #[v, vc] w fun e w' => ∃ v' q, e = .returned (.tuple #[v', .int .i64 q]) ∧ Below w.heap.size w w' ∧
      ((q = allAns cs ∧ q ≠ 0 ∧ v' = .slice none 0 0) ∨ (allAns cs = 0 ∧ soundP l = false ∧ q = 2 ∧ v' = .slice none 0 0) ∨ (allAns cs = 0 ∧ soundP l = true ∧ q = 0 ∧ RdP w' w'.heap.size v' (applyP l cs))) := by
  have hall := rall_any cs hcs vc w hvc (by omega)
  have hsound := fun W (h : RdP W W.heap.size v l) => rsound_any l hs v W h (by omega)
  have hone := fun (p : List (K × K)) (c : Chg) (h : c ∈ cs) (v : Value) (W : World) (hv : RdP W W.heap.size v p) (hl : p.length ≤ 7036874416000) => rone_any p c (hcs c h) v W hv hl
  obtain ⟨A, cc, rfl, hcc, hi⟩ := hvc.at
  obtain ⟨q0, hq0⟩ : ∃ q0, q0 = allAns cs := ⟨_, rfl⟩
  rw [← hq0] at hall ⊢
  obtain ⟨sd, hsd⟩ : ∃ sd, sd = soundP l := ⟨_, rfl⟩
  simp only [← hsd] at hsound ⊢
  have HALL := Lib.hid hall; clear hall hq0
  have HSOUND := Lib.hid hsound; clear hsound hsd
  have HONE := Lib.hid hone; clear hone
  have HI := Lib.hid hi; clear hi
  have HV := Lib.hid hv; clear hv
  clear hs hcs hvc
  obtain ⟨g, hg⟩ : ∃ g, g = w.heap.size := ⟨_, rfl⟩
  have HG := Lib.hid hg; clear hg
  go_enter Try.func24, Try.ntmps24
  go_wp2_with fail
  refine HALL.out.mono ?_
  rintro e w1 ⟨rfl, hb1⟩
  have HB1 := Lib.hid hb1; clear hb1
  by_cases hq : q0 = 0
  · subst hq
    go_wp2_with fail
    refine (HSOUND.out w1 (HV.out.below HB1.out (Nat.le_refl _) |>.mono HB1.out.size)).mono ?_
    rintro e w2 ⟨rfl, hb2⟩
    have HB2 := Lib.hid (HB1.out.trans (hb2.mono HB1.out.size)); clear hb2
    cases sd
    · go_wp2_with fail
      go_ret2
      exact ⟨_, _, rfl, HB2.out, .inr ⟨rfl, rfl⟩⟩
    · go_wp2_with fail
      go_loopw [0, 7] (fun pv iv wr => ∃ (i : Nat) (p : List (K × K)), i ≤ cs.length ∧ iv = .int .i64 i ∧ RdP wr wr.heap.size pv p ∧ p.length ≤ l.length + i ∧ Below g w wr ∧ applyP l cs = applyP p (cs.drop i)) (fun _ iv _ => cs.length - (intOf iv).toNat)
      case atStart => exact ⟨0, l, Nat.zero_le _, rfl, HV.out.below HB2.out (Nat.le_refl _) |>.mono HB2.out.size, by omega, by rw [HG.out]; exact HB2.out, rfl⟩
      case round =>
        obtain ⟨i, p, hil, rfl, hp, hpl, hbw, he⟩ := hrel
        have HBW := Lib.hid hbw; clear hbw
        have HE := Lib.hid he; clear he
        have HP := Lib.hid hp; clear hp
        by_cases hlt : i < cs.length
        · obtain ⟨b, o, rfl, hbB, k0, k1, k2⟩ := HI.out i hlt
          have hd := HE.out
          rw [List.drop_eq_getElem_cons hlt] at hd
          have hmem := List.getElem_mem hlt
          rw [← HBW.out.cell (p := ⟨b, o + i * 3, none⟩) (by rw [HG.out]; exact hbB)] at k0
          rw [← HBW.out.cell (p := ⟨b, o + i * 3 + 1, none⟩) (by rw [HG.out]; exact hbB)] at k1
          rw [← HBW.out.cell (p := ⟨b, o + i * 3 + 2, none⟩) (by rw [HG.out]; exact hbB)] at k2
          have h1 := HONE.out p cs[i] hmem _ _ HP.out (by omega)
          have h2 := oneP_len p cs[i]
          rw [show ∀ (c : Chg) r, applyP p (c :: r) = applyP (oneP p c) r from fun _ _ => rfl] at hd
          generalize oneP p cs[i] = p2 at hd h1 h2
          clear hmem
          generalize cs[i] = z at k0 k1 k2 h1
          obtain ⟨kz, xz, yz⟩ := z
          unfold cval at h1
          simp only at k0 k1 k2 h1
          have HD := Lib.hid hd
          have H1 := Lib.hid h1
          clear hd h1
          go_wp2_with fail
          refine H1.out.mono ?_
          rintro e w3 ⟨A3, c3, rfl, ho3, hb3⟩
          have HO3 := Lib.hid ho3; clear ho3
          have HB3 := Lib.hid (show Below g w w3 from HBW.out.trans (hb3.mono (by rw [HG.out]; exact HBW.out.size))); clear hb3
          clear k0 k1 k2
          go_wp2_with fail
          go_roundw
          case rel => exact ⟨i + 1, p2, by omega, by go_num, Own.rd cellsS_len HO3.out, by omega, HB3.out, HD.out⟩
          case measure => simp [intOf]; omega
        · have hd := HE.out
          rw [List.drop_eq_nil_of_le (by omega)] at hd
          have HD := Lib.hid hd; clear hd
          go_wp2_with fail
          go_ret2
          exact ⟨_, _, rfl, by have h := HBW.out; rwa [HG.out] at h, .inr ⟨rfl, by rw [HD.out]; exact HP.out⟩⟩
  · go_wp2_with fail
    go_ret2
    exact ⟨_, _, rfl, HB1.out, .inl ⟨rfl, hq, rfl⟩⟩
end Go.Proofs.Yteelnholmlabmaa
