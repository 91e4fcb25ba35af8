/- Pairs and changes held against each other: what the reference's Pairs and Same answer. -/
import Derived.Test.YteelnholmlabmaaChg
import Derived.Laws.StructEq
namespace Go.Proofs.Yteelnholmlabmaa
open Go.RowKit
attribute [local go_sem] less_eq same_eq le_eq ge_eq gt_eq

theorem pair_guard : Try.prog.eqGuardType Try.prog.depth 72 = false := by kernel_rfl
set_option maxRecDepth 100000 in
theorem eql_pair (a b c d : K) (W : World) : (binOp .eql 72 (.agg #[.string a, .string b]) (.agg #[.string c, .string d])).run Try.prog W = .ok (.bool (decide (a = c) && decide (b = d))) W := by
  have hS : Try.prog.underlying 72 = some (.struct (Try.prog.fieldsOf 72)) := by kernel_rfl
  have hp : Try.prog.stoodInHeld 72 = false := by kernel_rfl
  have u0 := Try.underlying9
  have ag0 := Try.isAgg9
  have sz0 := Try.sizeOf9
  rw [run_eql_struct, show (10000 : Nat) = 9999 + 1 from rfl, run_equalIn_agg W 9999 72 _ _ hS hp]
  simp only [Program.fieldsOf, Try.underlying72]
  go_simp
  by_cases h1 : a = c <;> by_cases h2 : b = d <;> simp [h1, h2]
set_option maxRecDepth 100000 in
theorem neq_pair (a b c d : K) (W : World) : (binOp .neq 72 (.agg #[.string a, .string b]) (.agg #[.string c, .string d])).run Try.prog W = .ok (.bool (!(decide (a = c) && decide (b = d)))) W := by
  have h := eql_pair a b c d W
  rw [run_eql_struct] at h
  rw [run_neq_struct]
  cases hr : (Op.equalIn 10000 72 (.agg #[.string a, .string b]) (.agg #[.string c, .string d])).run Try.prog W with
  | ok x w' => rw [hr] at h; simp only [Result.andThen] at h ⊢; injection h with h1 h2; subst h2; injection h1 with h1; rw [h1]
  | halt x w' => rw [hr] at h; simp [Result.andThen] at h
theorem chg_guard : Try.prog.eqGuardType Try.prog.depth 67 = false := by kernel_rfl
set_option maxRecDepth 100000 in
theorem eql_chg (k m : Int) (a b c d : K) (W : World) : (binOp .eql 67 (.agg #[.int .i64 k, .string a, .string b]) (.agg #[.int .i64 m, .string c, .string d])).run Try.prog W = .ok (.bool (decide (k = m) && decide (a = c) && decide (b = d))) W := by
  have hS : Try.prog.underlying 67 = some (.struct (Try.prog.fieldsOf 67)) := by kernel_rfl
  have hp : Try.prog.stoodInHeld 67 = false := by kernel_rfl
  have u0 := Try.underlying3
  have ag0 := Try.isAgg3
  have sz0 := Try.sizeOf3
  have u1 := Try.underlying9
  have ag1 := Try.isAgg9
  have sz1 := Try.sizeOf9
  rw [run_eql_struct, show (10000 : Nat) = 9999 + 1 from rfl, run_equalIn_agg W 9999 67 _ _ hS hp]
  simp only [Program.fieldsOf, Try.underlying67]
  go_simp
  by_cases h0 : k = m <;> by_cases h1 : a = c <;> by_cases h2 : b = d <;> simp [h0, h1, h2]
set_option maxRecDepth 100000 in
theorem neq_chg (k m : Int) (a b c d : K) (W : World) : (binOp .neq 67 (.agg #[.int .i64 k, .string a, .string b]) (.agg #[.int .i64 m, .string c, .string d])).run Try.prog W = .ok (.bool (!(decide (k = m) && decide (a = c) && decide (b = d)))) W := by
  have h := eql_chg k m a b c d W
  rw [run_eql_struct] at h
  rw [run_neq_struct]
  cases hr : (Op.equalIn 10000 67 (.agg #[.int .i64 k, .string a, .string b]) (.agg #[.int .i64 m, .string c, .string d])).run Try.prog W with
  | ok x w' => rw [hr] at h; simp only [Result.andThen] at h ⊢; injection h with h1 h2; subst h2; injection h1 with h1; rw [h1]
  | halt x w' => rw [hr] at h; simp [Result.andThen] at h

set_option maxHeartbeats 2000000 in
set_option maxRecDepth 100000 in
theorem pairs_any (a b : List (K × K)) (va vb : Value) (w : World) (hva : RdP w w.heap.size va a) (hvb : RdP w w.heap.size vb b) (hla : a.length < 4611686018427387904) (_hlb : b.length < 4611686018427387904) :
    Calls Try.prog 25 #[va, vb] w fun e w' => e = .returned (.bool (decide (a = b))) ∧ Below w.heap.size w w' := by
  obtain ⟨A1, c1, rfl, hc1, hia⟩ := hva.at
  obtain ⟨A2, c2, rfl, hc2, hib⟩ := hvb.at
  obtain ⟨D, hD⟩ : ∃ D, D = decide (a = b) := ⟨_, rfl⟩
  rw [← hD]
  have HD := Lib.hid hD; clear hD
  clear hva hvb
  by_cases hlen : a.length = b.length
  · have HA := Lib.hid hia; clear hia
    have HB := Lib.hid hib; clear hib
    have HL := Lib.hid hlen
    rw [← hlen]
    rw [← hlen] at hc2
    clear hlen
    obtain ⟨g, hg⟩ : ∃ g, g = w.heap.size := ⟨_, rfl⟩
    have HG := Lib.hid hg; clear hg
    go_enter Try.func25, Try.ntmps25
    go_wp2_with fail
    go_loopw [5] (fun iv wr => ∃ j : Nat, j ≤ a.length ∧ iv = .int .i64 j ∧ Below g w wr ∧ ∀ k (h1 : k < a.length) (h2 : k < b.length), k < j → a[k] = b[k]) (fun iv _ => a.length - (intOf iv).toNat)
    case atStart => exact ⟨0, Nat.zero_le _, rfl, Below.refl _ _, fun k _ _ h => by omega⟩
    case round =>
      obtain ⟨j, hj, rfl, hbw, hall⟩ := hrel
      have HBW := Lib.hid hbw; clear hbw
      have HALL := Lib.hid hall; clear hall
      by_cases hlt : j < a.length
      · have hlt2 : j < b.length := by rw [← HL.out]; exact hlt
        obtain ⟨b1, o1, rfl, hb1, x0, x1⟩ := HA.out j hlt
        obtain ⟨b2, o2, rfl, hb2, y0, y1⟩ := HB.out j hlt2
        have hbd : Below w.heap.size w wr.drew := by have h := HBW.out.drew; rwa [HG.out] at h
        have hx2 : ∀ W, Below wr.drew.heap.size wr.drew W → W.cell? ⟨b1, o1 + j * 2, none⟩ = some (.string a[j].1) ∧ W.cell? ⟨b1, o1 + j * 2 + 1, none⟩ = some (.string a[j].2) := fun W hW => ⟨((hbd.trans (hW.mono hbd.size)).cell (p := ⟨_, _, none⟩) hb1).trans x0, ((hbd.trans (hW.mono hbd.size)).cell (p := ⟨_, _, none⟩) hb1).trans x1⟩
        have hy2 : ∀ W, Below wr.drew.heap.size wr.drew W → W.cell? ⟨b2, o2 + j * 2, none⟩ = some (.string b[j].1) ∧ W.cell? ⟨b2, o2 + j * 2 + 1, none⟩ = some (.string b[j].2) := fun W hW => ⟨((hbd.trans (hW.mono hbd.size)).cell (p := ⟨_, _, none⟩) hb2).trans y0, ((hbd.trans (hW.mono hbd.size)).cell (p := ⟨_, _, none⟩) hb2).trans y1⟩
        have hne : a[j] ≠ b[j] → D = false := fun h => by rw [HD.out]; exact decide_eq_false fun e => h (by subst e; rfl)
        have heq : a[j] = b[j] → ∀ k (h1 : k < a.length) (h2 : k < b.length), k < j + 1 → a[k] = b[k] := fun h k h1 h2 hk => by
          rcases Nat.lt_or_ge k j with h' | h'
          · exact HALL.out k h1 h2 h'
          · obtain rfl : k = j := by omega
            exact h
        clear x0 x1 y0 y1
        generalize a[j] = x at hx2 hne heq
        generalize b[j] = y at hy2 hne heq
        have HX := Lib.hid hx2
        have HY := Lib.hid hy2
        have HNE := Lib.hid hne
        have HEQ := Lib.hid heq
        have hj0 : (0 : Int) ≤ (j : Int) := by omega
        have hj1 : (j : Int) < (a.length : Int) := by omega
        have HBD := Lib.hid hbd
        clear hx2 hy2 hne heq hbd hlt2
        by_cases hxy : x = y
        · have HN := Lib.hid (show ∀ W : World, (binOp .neq 72 (.agg #[.string x.1, .string x.2]) (.agg #[.string y.1, .string y.2])).run Try.prog W = .ok (.bool false) W from fun W => by rw [neq_pair]; subst hxy; simp)
          go_wp2_with fail
          refine wp_region_planB [(true, 0), (true, 1), (true, 2), (true, 3), (true, 4), (true, 5), (true, 6), (true, 7), (true, 8)] (by kernel_rfl) (by kernel_rfl) (fun _ _ d _ _ h => by cases d <;> exact h) ?_
          repeat (refine PlanB.take (v := ?_) rfl rfl ?_ ?_; rotate_left; (focus (intro W hW; obtain ⟨k0, k1⟩ := HX.out W hW; obtain ⟨j0, j1⟩ := HY.out W hW; have kn := HN.out W; have kg := pair_guard; go_simp; (try with_reducible rfl); done)); (try simp only [Act.put, List.setIfInBounds_toArray, List.set_cons_zero, List.set_cons_succ]))
          simp only [PlanB]
          go_wp2_with fail
          go_roundw
          case rel => exact ⟨j + 1, by omega, by go_num, HBW.out.drew, HEQ.out hxy⟩
          case measure => simp [intOf]; omega
        · have hd3 : ¬ x.1 = y.1 ∨ (x.1 = y.1 ∧ ¬ x.2 = y.2) := by
            by_cases h1 : x.1 = y.1
            · exact .inr ⟨h1, fun h2 => hxy (Prod.ext h1 h2)⟩
            · exact .inl h1
          rcases hd3 with h1 | ⟨h1, h2⟩
          all_goals
            go_wp2_with fail
            refine wp_region_planB [(true, 0), (true, 1), (true, 2), (true, 3), (true, 4), (true, 5), (true, 6), (true, 7), (true, 8)] (by kernel_rfl) (by kernel_rfl) (fun _ _ d _ _ h => by cases d <;> exact h) ?_
            repeat (refine PlanB.take (v := ?_) rfl rfl ?_ ?_; rotate_left; (focus (intro W hW; obtain ⟨k0, k1⟩ := HX.out W hW; obtain ⟨j0, j1⟩ := HY.out W hW; have kg := pair_guard; go_simp; (try with_reducible rfl); done)); (try simp only [Act.put, List.setIfInBounds_toArray, List.set_cons_zero, List.set_cons_succ]))
            simp only [PlanB]
            go_wp2_with fail
            go_ret
            exact ⟨by rw [HNE.out hxy]; rfl, HBD.out⟩
      · go_wp2_with fail
        go_ret
        refine ⟨?_, by have h := HBW.out; rwa [HG.out] at h⟩
        have : D = true := by
          rw [HD.out]
          refine decide_eq_true (List.ext_getElem HL.out fun k h1 h2 => HALL.out k h1 h2 (by omega))
        rw [this]; rfl
  · have hd : D = false := by rw [HD.out]; exact decide_eq_false fun e => hlen (by rw [e])
    have HD2 := Lib.hid hd
    have hli : ¬ ((a.length : Int) = (b.length : Int)) := by omega
    clear hd hia hib
    go_enter Try.func25, Try.ntmps25
    go_wp2_with fail
    go_ret
    exact ⟨by rw [HD2.out]; rfl, Below.refl _ _⟩

set_option maxHeartbeats 2000000 in
set_option maxRecDepth 100000 in
theorem chgs_any (a b : List Chg) (va vb : Value) (w : World) (hva : RdC w w.heap.size va a) (hvb : RdC w w.heap.size vb b) (hla : a.length < 4611686018427387904) (_hlb : b.length < 4611686018427387904) :
    Calls Try.prog 18 #[va, vb] w fun e w' => e = .returned (.bool (decide (a = b))) ∧ Below w.heap.size w w' := by
  obtain ⟨A1, c1, rfl, hc1, hia⟩ := hva.at
  obtain ⟨A2, c2, rfl, hc2, hib⟩ := hvb.at
  obtain ⟨D, hD⟩ : ∃ D, D = decide (a = b) := ⟨_, rfl⟩
  rw [← hD]
  have HD := Lib.hid hD; clear hD
  clear hva hvb
  by_cases hlen : a.length = b.length
  · have HA := Lib.hid hia; clear hia
    have HB := Lib.hid hib; clear hib
    have HL := Lib.hid hlen
    rw [← hlen]
    rw [← hlen] at hc2
    clear hlen
    obtain ⟨g, hg⟩ : ∃ g, g = w.heap.size := ⟨_, rfl⟩
    have HG := Lib.hid hg; clear hg
    go_enter Try.func18, Try.ntmps18
    go_wp2_with fail
    go_loopw [5] (fun iv wr => ∃ j : Nat, j ≤ a.length ∧ iv = .int .i64 j ∧ Below g w wr ∧ ∀ k (h1 : k < a.length) (h2 : k < b.length), k < j → a[k] = b[k]) (fun iv _ => a.length - (intOf iv).toNat)
    case atStart => exact ⟨0, Nat.zero_le _, rfl, Below.refl _ _, fun k _ _ h => by omega⟩
    case round =>
      obtain ⟨j, hj, rfl, hbw, hall⟩ := hrel
      have HBW := Lib.hid hbw; clear hbw
      have HALL := Lib.hid hall; clear hall
      by_cases hlt : j < a.length
      · have hlt2 : j < b.length := by rw [← HL.out]; exact hlt
        obtain ⟨b1, o1, rfl, hb1, x0, x1, x2⟩ := HA.out j hlt
        obtain ⟨b2, o2, rfl, hb2, y0, y1, y2⟩ := HB.out j hlt2
        have hbd : Below w.heap.size w wr.drew := by have h := HBW.out.drew; rwa [HG.out] at h
        have hx2 : ∀ W, Below wr.drew.heap.size wr.drew W → W.cell? ⟨b1, o1 + j * 3, none⟩ = some (.int .i64 a[j].kind) ∧ W.cell? ⟨b1, o1 + j * 3 + 1, none⟩ = some (.string a[j].key) ∧ W.cell? ⟨b1, o1 + j * 3 + 2, none⟩ = some (.string a[j].val) := fun W hW => ⟨((hbd.trans (hW.mono hbd.size)).cell (p := ⟨_, _, none⟩) hb1).trans x0, ((hbd.trans (hW.mono hbd.size)).cell (p := ⟨_, _, none⟩) hb1).trans x1, ((hbd.trans (hW.mono hbd.size)).cell (p := ⟨_, _, none⟩) hb1).trans x2⟩
        have hy2 : ∀ W, Below wr.drew.heap.size wr.drew W → W.cell? ⟨b2, o2 + j * 3, none⟩ = some (.int .i64 b[j].kind) ∧ W.cell? ⟨b2, o2 + j * 3 + 1, none⟩ = some (.string b[j].key) ∧ W.cell? ⟨b2, o2 + j * 3 + 2, none⟩ = some (.string b[j].val) := fun W hW => ⟨((hbd.trans (hW.mono hbd.size)).cell (p := ⟨_, _, none⟩) hb2).trans y0, ((hbd.trans (hW.mono hbd.size)).cell (p := ⟨_, _, none⟩) hb2).trans y1, ((hbd.trans (hW.mono hbd.size)).cell (p := ⟨_, _, none⟩) hb2).trans y2⟩
        have hne : a[j] ≠ b[j] → D = false := fun h => by rw [HD.out]; exact decide_eq_false fun e => h (by subst e; rfl)
        have heq : a[j] = b[j] → ∀ k (h1 : k < a.length) (h2 : k < b.length), k < j + 1 → a[k] = b[k] := fun h k h1 h2 hk => by
          rcases Nat.lt_or_ge k j with h' | h'
          · exact HALL.out k h1 h2 h'
          · obtain rfl : k = j := by omega
            exact h
        clear x0 x1 x2 y0 y1 y2
        generalize a[j] = x at hx2 hne heq
        generalize b[j] = y at hy2 hne heq
        have HX := Lib.hid hx2
        have HY := Lib.hid hy2
        have HNE := Lib.hid hne
        have HEQ := Lib.hid heq
        have hj0 : (0 : Int) ≤ (j : Int) := by omega
        have hj1 : (j : Int) < (a.length : Int) := by omega
        have HBD := Lib.hid hbd
        clear hx2 hy2 hne heq hbd hlt2
        by_cases hxy : x = y
        · have HN := Lib.hid (show ∀ W : World, (binOp .neq 67 (.agg #[.int .i64 x.kind, .string x.key, .string x.val]) (.agg #[.int .i64 y.kind, .string y.key, .string y.val])).run Try.prog W = .ok (.bool false) W from fun W => by rw [neq_chg]; subst hxy; simp)
          go_wp2_with fail
          refine wp_region_planB [(true, 0), (true, 1), (true, 2), (true, 3), (true, 4), (true, 5), (true, 6), (true, 7), (true, 8)] (by kernel_rfl) (by kernel_rfl) (fun _ _ d _ _ h => by cases d <;> exact h) ?_
          repeat (refine PlanB.take (v := ?_) rfl rfl ?_ ?_; rotate_left; (focus (intro W hW; obtain ⟨k0, k1, k2⟩ := HX.out W hW; obtain ⟨j0, j1, j2⟩ := HY.out W hW; have kn := HN.out W; have kg := chg_guard; go_simp; (try with_reducible rfl); done)); (try simp only [Act.put, List.setIfInBounds_toArray, List.set_cons_zero, List.set_cons_succ]))
          simp only [PlanB]
          go_wp2_with fail
          go_roundw
          case rel => exact ⟨j + 1, by omega, by go_num, HBW.out.drew, HEQ.out hxy⟩
          case measure => simp [intOf]; omega
        · have hd3 : ¬ x.kind = y.kind ∨ (x.kind = y.kind ∧ ¬ x.key = y.key) ∨ (x.kind = y.kind ∧ x.key = y.key ∧ ¬ x.val = y.val) := by
            by_cases h1 : x.kind = y.kind
            · by_cases h2 : x.key = y.key
              · exact .inr (.inr ⟨h1, h2, fun h3 => hxy (by cases x; cases y; simp only at h1 h2 h3; subst h1 h2 h3; rfl)⟩)
              · exact .inr (.inl ⟨h1, h2⟩)
            · exact .inl h1
          rcases hd3 with h1 | ⟨h1, h2⟩ | ⟨h1, h2, h3⟩
          all_goals
            go_wp2_with fail
            refine wp_region_planB [(true, 0), (true, 1), (true, 2), (true, 3), (true, 4), (true, 5), (true, 6), (true, 7), (true, 8)] (by kernel_rfl) (by kernel_rfl) (fun _ _ d _ _ h => by cases d <;> exact h) ?_
            repeat (refine PlanB.take (v := ?_) rfl rfl ?_ ?_; rotate_left; (focus (intro W hW; obtain ⟨k0, k1, k2⟩ := HX.out W hW; obtain ⟨j0, j1, j2⟩ := HY.out W hW; have kg := chg_guard; go_simp; (try with_reducible rfl); done)); (try simp only [Act.put, List.setIfInBounds_toArray, List.set_cons_zero, List.set_cons_succ]))
            simp only [PlanB]
            go_wp2_with fail
            go_ret
            exact ⟨by rw [HNE.out hxy]; rfl, HBD.out⟩
      · go_wp2_with fail
        go_ret
        refine ⟨?_, by have h := HBW.out; rwa [HG.out] at h⟩
        have : D = true := by
          rw [HD.out]
          refine decide_eq_true (List.ext_getElem HL.out fun k h1 h2 => HALL.out k h1 h2 (by omega))
        rw [this]; rfl
  · have hd : D = false := by rw [HD.out]; exact decide_eq_false fun e => hlen (by rw [e])
    have HD2 := Lib.hid hd
    have hli : ¬ ((a.length : Int) = (b.length : Int)) := by omega
    clear hd hia hib
    go_enter Try.func18, Try.ntmps18
    go_wp2_with fail
    go_ret
    exact ⟨by rw [HD2.out]; rfl, Below.refl _ _⟩
end Go.Proofs.Yteelnholmlabmaa
