/- What the reference's Split and Ints answer. -/
import Derived.Test.YtnjkceekiipobaaRNums
import Derived.Test.YtnjkceekiipobaaRText
namespace Go.Proofs.Ytnjkceekiipobaa
open Go.RowKit

/-- what Split answers -/
def splitGo : Nat → List UInt8 → List Int → List Int × Nat
  | 0, l, acc => if l.length > 0 then ([], 2) else (acc, 0)
  | k + 1, l, acc => if (numAns l).2.2 ≠ 0 then ([], (numAns l).2.2) else splitGo k (l.drop (numAns l).2.1) (acc ++ [((numAns l).1 : Int)])
def splitAns (l : List UInt8) (count : Int) : List Int × Nat := if count < 0 ∨ count > 4096 then ([], 1) else splitGo count.toNat l []

set_option maxHeartbeats 4000000 in
set_option maxRecDepth 100000 in
theorem rsplit_any (l : List UInt8) (v : Value) (count : Int) (w : World) (hv : RdB w w.heap.size v l) (hl : l.length < 4611686018427387904) :
    Calls Try.prog 22 #[v, .int .i64 count] w fun e w' => ∃ v', e = .returned (.tuple #[v', .int .i64 ((splitAns l count).2 : Int)]) ∧ RdI w' w'.heap.size v' (splitAns l count).1 ∧ Below w.heap.size w w' := by
  obtain ⟨A, c, rfl, hc, _⟩ := hv.at
  by_cases hneg : count < 0
  · rw [splitAns, if_pos (.inl hneg)]
    clear hv
    go_enter Try.func22, Try.ntmps22
    go_wp2_with fail
    go_ret2
    exact ⟨_, rfl, Rd.nil _ _, Below.refl _ _⟩
  by_cases hbig : count > 4096
  · rw [splitAns, if_pos (.inr hbig)]
    clear hv
    go_enter Try.func22, Try.ntmps22
    go_wp2_with fail
    go_ret2
    exact ⟨_, rfl, Rd.nil _ _, Below.refl _ _⟩
  obtain ⟨k, rfl⟩ : ∃ k : Nat, count = (k : Int) := ⟨count.toNat, by omega⟩
  have hk : k ≤ 4096 := by omega
  obtain ⟨R, hR⟩ : ∃ R, R = splitAns l (k : Int) := ⟨_, rfl⟩
  rw [← hR]
  rw [splitAns, if_neg (by omega), Int.toNat_natCast] at hR
  clear hneg hbig
  have hk1 : ¬ ((4096 : Int) < (k : Int)) := by omega
  have HR := Lib.hid hR; clear hR
  have HV := Lib.hid hv; clear hv
  obtain ⟨g, hg⟩ : ∃ g, g = w.heap.size := ⟨_, rfl⟩
  have HG := Lib.hid hg; clear hg
  go_enter Try.func22, Try.ntmps22
  go_wp2_with fail
  go_loopw [0, 6, 7] (fun bv ov jv wr => ∃ (j : Nat) (l' : List UInt8) (acc : List Int) (A1 : Option Addr) (c1 : Nat) (A2 : Option Addr) (c2 : Nat), j ≤ k ∧ jv = .int .i64 j ∧ bv = .slice A1 l'.length c1 ∧ RdB w g (.slice A1 l'.length c1) l' ∧ ov = .slice A2 acc.length c2 ∧ OwnI wr g (.slice A2 acc.length c2) acc ∧ acc.length ≤ j ∧ Below g w wr ∧ g ≤ wr.heap.size ∧ R = splitGo (k - j) l' acc ∧ l'.length ≤ l.length) (fun _ _ jv _ => k - (intOf jv).toNat)
  case atStart => exact ⟨0, l, [], A, c, _, _, Nat.zero_le _, rfl, rfl, by rw [HG.out]; exact HV.out, rfl, by rw [HG.out]; exact Own.empty _ _ (Nat.le_refl _), Nat.le_refl _, by rw [HG.out]; exact (Below.refl _ _).alloc (Nat.le_refl _) _, by rw [HG.out]; simp, by rw [HR.out]; rfl, Nat.le_refl _⟩
  case round =>
    obtain ⟨j, l', acc, A1, c1, A2, c2, hj, rfl, rfl, hrd, rfl, ho, hac, hbw, hgs, he, hll⟩ := hrel
    have hnum := rnum_any l' _ wr g (hrd.below hbw (Nat.le_refl _)) (by omega)
    have herr := numAns_err l'
    have honce := fun (m u : Nat) (h : numAns l' = (m, u, 0)) => numAns_once h
    by_cases hlt : j < k
    · rw [show k - j = (k - (j + 1)) + 1 by omega, splitGo] at he
      generalize numAns l' = x at hnum herr honce he
      obtain ⟨n, u, e⟩ := x
      simp only at he herr
      simp only [numVal] at hnum
      have HO := Lib.hid ho; clear ho
      have HB := Lib.hid hbw; clear hbw
      have HN := Lib.hid hnum; clear hnum
      by_cases hee : e = 0
      · subst hee
        obtain ⟨hu, hu9, hu1, s, hs⟩ := honce n u rfl
        have hlu : u ≤ l'.length := by rw [hu, hs]; simp
        rw [if_neg (by omega)] at he
        obtain ⟨A0, c0, hv0, hc0, hi0⟩ := hrd.at
        simp only [Value.slice.injEq, true_and] at hv0
        obtain ⟨rfl, rfl⟩ := hv0
        obtain ⟨b, o, hA⟩ : ∃ b o, A1 = some ⟨b, o, none⟩ := by obtain ⟨b, o, h, _⟩ := hi0 0 (by omega); exact ⟨b, o, h⟩
        subst hA
        have hdl : (l'.drop u).length = l'.length - u := by simp
        have hrd2 : ∀ A', (0 < l'.length - u → A' = some ⟨b, o + u, none⟩) → RdB w g (.slice A' (l'.drop u).length (c1 - u)) (l'.drop u) := fun A' hA => by
          have := hrd.window u (l'.length - u) (by omega) (c1 - u) (by omega) A' hA
          rwa [List.take_of_length_le (by rw [hdl]; exact Nat.le_refl _), ← hdl] at this
        have HE := Lib.hid he
        have HRD := Lib.hid hrd2
        have HDL := Lib.hid hdl
        clear he hrd2 hdl honce herr hi0 hs hu hrd
        have hcu : (u : Int) ≤ (c1 : Int) := by omega
        by_cases hcz : c1 = u
        · subst hcz
          go_wp2_with fail
          refine HN.out.mono ?_
          rintro e w2 ⟨rfl, rfl⟩
          go_wp2_with (at_builtin; go_must (refine wpList_addI rfl _ _ rfl g (.slice A2 acc.length c2) acc rfl ?p1 (w2.heap.size + 1) _ [(n : Int)] rfl (RdI.one w2 _) (by simp; omega) ?p2 g w ?p3 (Nat.le_refl _) ?p4))
          case p1 => exact HO.out.alloc _
          case p2 => simp; omega
          case p3 => exact HB.out.alloc hgs _
          intro A3 c3 w3 ho3 hb3 hz3
          go_wp2_with fail
          go_roundw
          case rel => exact ⟨j + 1, l'.drop c1, acc ++ [(n : Int)], some ⟨b, o, none⟩, c1 - c1, A3, c3, by omega, by go_num, by rw [HDL.out, show l'.length - c1 = 0 by omega, Nat.sub_self], HRD.out _ (fun h => by omega), by simp, by simpa using ho3.out, by simp; omega, hb3.out, hz3.out, HE.out, by rw [HDL.out]; omega⟩
          case measure => simp [intOf]; omega
        · go_wp2_with fail
          refine HN.out.mono ?_
          rintro e w2 ⟨rfl, rfl⟩
          go_wp2_with (at_builtin; go_must (refine wpList_addI rfl _ _ rfl g (.slice A2 acc.length c2) acc rfl ?q1 (w2.heap.size + 1) _ [(n : Int)] rfl (RdI.one w2 _) (by simp; omega) ?q2 g w ?q3 (Nat.le_refl _) ?q4))
          case q1 => exact HO.out.alloc _
          case q2 => simp; omega
          case q3 => exact HB.out.alloc hgs _
          intro A3 c3 w3 ho3 hb3 hz3
          go_wp2_with fail
          go_roundw
          case rel => exact ⟨j + 1, l'.drop u, acc ++ [(n : Int)], some ⟨b, o + u, none⟩, c1 - u, A3, c3, by omega, by go_num, by rw [HDL.out], HRD.out _ (fun _ => rfl), by simp, by simpa using ho3.out, by simp; omega, hb3.out, hz3.out, HE.out, by rw [HDL.out]; omega⟩
          case measure => simp [intOf]; omega
      · rcases herr with h | h | h
        · exact absurd h hee
        all_goals
          simp only [Prod.mk.injEq] at h
          obtain ⟨rfl, rfl, rfl⟩ := h
          rw [if_pos (by decide)] at he
          have HE := Lib.hid he
          clear he honce hrd
          go_wp2_with fail
          refine HN.out.mono ?_
          rintro e w2 ⟨rfl, rfl⟩
          go_wp2_with fail
          go_ret2
          exact ⟨_, by rw [HE.out]; rfl, by rw [HE.out]; exact Rd.nil _ _, by have h := HB.out; rw [HG.out] at h; exact h⟩
    · obtain rfl : j = k := by omega
      rw [Nat.sub_self, splitGo] at he
      have HO := Lib.hid ho; clear ho
      have HB := Lib.hid hbw; clear hbw
      clear hnum herr honce hrd
      by_cases hpos : l'.length > 0
      · rw [if_pos hpos] at he
        have HE := Lib.hid he; clear he
        have hp : (0 : Int) < (l'.length : Int) := by omega
        go_wp2_with fail
        go_ret2
        exact ⟨_, by rw [HE.out]; rfl, by rw [HE.out]; exact Rd.nil _ _, by have h := HB.out; rw [HG.out] at h; exact h⟩
      · rw [if_neg hpos] at he
        have HE := Lib.hid he; clear he
        have hp : ¬ (0 : Int) < (l'.length : Int) := by omega
        go_wp2_with fail
        go_ret2
        exact ⟨.slice A2 acc.length c2, by rw [HE.out]; rfl, by rw [HE.out]; exact HO.out.rdI, by have h := HB.out; rw [HG.out] at h; exact h⟩

set_option maxHeartbeats 1000000 in
set_option maxRecDepth 100000 in
theorem ints_any (a b : List Int) (va vb : Value) (w : World) (hva : RdI w w.heap.size va a) (hvb : RdI w w.heap.size vb b) (hla : a.length < 4611686018427387904) (hlb : b.length < 4611686018427387904) :
    Calls Try.prog 23 #[va, vb] w fun e w' => e = .returned (.bool (decide (a = b))) ∧ Below w.heap.size w w' := by
  obtain ⟨A1, c1, rfl, hc1, hia⟩ := hva.at
  obtain ⟨A2, c2, rfl, hc2, hib⟩ := hvb.at
  obtain ⟨D, hD⟩ : ∃ D, D = decide (a = b) := ⟨_, rfl⟩
  rw [← hD]
  have HD := Lib.hid hD; clear hD
  clear hva hvb
  by_cases hlen : a.length = b.length
  · have HA := Lib.hid hia; clear hia
    have HB := Lib.hid hib; clear hib
    have HL := Lib.hid hlen
    rw [← hlen]
    rw [← hlen] at hlb hc2
    clear hlen
    obtain ⟨g, hg⟩ : ∃ g, g = w.heap.size := ⟨_, rfl⟩
    have HG := Lib.hid hg; clear hg
    go_enter Try.func23, Try.ntmps23
    go_wp2_with fail
    go_loopw [5] (fun iv wr => ∃ j : Nat, j ≤ a.length ∧ iv = .int .i64 j ∧ Below g w wr ∧ ∀ k (h1 : k < a.length) (h2 : k < b.length), k < j → a[k] = b[k]) (fun iv _ => a.length - (intOf iv).toNat)
    case atStart => exact ⟨0, Nat.zero_le _, rfl, Below.refl _ _, fun k _ _ h => by omega⟩
    case round =>
      obtain ⟨j, hj, rfl, hbw, hall⟩ := hrel
      have HBW := Lib.hid hbw; clear hbw
      have HALL := Lib.hid hall; clear hall
      by_cases hlt : j < a.length
      · have hlt2 : j < b.length := by rw [← HL.out]; exact hlt
        obtain ⟨b1, o1, rfl, hb1, hx⟩ := HA.out j hlt
        obtain ⟨b2, o2, rfl, hb2, hy⟩ := HB.out j hlt2
        have hbd : Below w.heap.size w wr.drew := by have h := HBW.out.drew; rwa [HG.out] at h
        have hx2 : ∀ W, Below wr.drew.heap.size wr.drew W → W.cell? ⟨b1, o1 + j, none⟩ = some (.int .i64 a[j]) := fun W hW => ((hbd.trans (hW.mono hbd.size)).cell (p := ⟨b1, _, none⟩) hb1).trans hx
        have hy2 : ∀ W, Below wr.drew.heap.size wr.drew W → W.cell? ⟨b2, o2 + j, none⟩ = some (.int .i64 b[j]) := fun W hW => ((hbd.trans (hW.mono hbd.size)).cell (p := ⟨b2, _, none⟩) hb2).trans hy
        have hne : a[j] ≠ b[j] → D = false := fun h => by rw [HD.out]; exact decide_eq_false fun e => h (by subst e; rfl)
        have heq : a[j] = b[j] → ∀ k (h1 : k < a.length) (h2 : k < b.length), k < j + 1 → a[k] = b[k] := fun h k h1 h2 hk => by
          rcases Nat.lt_or_ge k j with h' | h'
          · exact HALL.out k h1 h2 h'
          · obtain rfl : k = j := by omega
            exact h
        generalize a[j] = x at hx2 hx hne heq
        generalize b[j] = y at hy2 hy hne heq
        have HX := Lib.hid hx2
        have HY := Lib.hid hy2
        have HNE := Lib.hid hne
        have HEQ := Lib.hid heq
        have hj0 : (0 : Int) ≤ (j : Int) := by omega
        have hj1 : (j : Int) < (a.length : Int) := by omega
        have HBD := Lib.hid hbd
        clear hx hy hx2 hy2 hne heq hbd hlt2
        by_cases hxy : x = y
        all_goals
          go_wp2_with fail
          refine wp_region_planB [(true, 0), (true, 1), (true, 2), (true, 3), (true, 4), (true, 5), (true, 6), (true, 7), (true, 8)] (by kernel_rfl) (by kernel_rfl) (fun _ _ d _ _ h => by cases d <;> exact h) ?_
          repeat (refine PlanB.take (v := ?_) rfl rfl ?_ ?_; rotate_left; (focus (intro W hW; have k1 := HX.out W hW; have k2 := HY.out W hW; go_simp; (try with_reducible rfl); done)); (try simp only [Act.put, List.setIfInBounds_toArray, List.set_cons_zero, List.set_cons_succ]))
          simp only [PlanB]
          go_wp2_with fail
        · go_roundw
          case rel => exact ⟨j + 1, by omega, by go_num, HBW.out.drew, HEQ.out hxy⟩
          case measure => simp [intOf]; omega
        · go_ret
          exact ⟨by rw [HNE.out hxy]; rfl, HBD.out⟩
      · go_wp2_with fail
        go_ret
        refine ⟨?_, by have h := HBW.out; rwa [HG.out] at h⟩
        have : D = true := by
          rw [HD.out]
          refine decide_eq_true (List.ext_getElem HL.out fun k h1 h2 => HALL.out k h1 h2 (by omega))
        rw [this]; rfl
  · have hd : D = false := by rw [HD.out]; exact decide_eq_false fun e => hlen (by rw [e])
    have HD2 := Lib.hid hd
    have hli : ¬ ((a.length : Int) = (b.length : Int)) := by omega
    clear hd hia hib
    go_enter Try.func23, Try.ntmps23
    go_wp2_with fail
    go_ret
    exact ⟨by rw [HD2.out]; rfl, Below.refl _ _⟩
end Go.Proofs.Ytnjkceekiipobaa
