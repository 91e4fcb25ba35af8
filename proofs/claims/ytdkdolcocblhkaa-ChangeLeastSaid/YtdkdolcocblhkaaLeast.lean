/- The fewest changes that do the same: what the program's Least answers. -/
import Derived.Test.YtdkdolcocblhkaaLeastP
import Derived.Test.YtdkdolcocblhkaaErase
namespace Go.Proofs.Ytdkdolcocblhkaa
open Go.RowKit
attribute [local go_sem] less_eq same_eq le_eq ge_eq gt_eq

/-- what Least answers: an error, or changes of the call's own -/
def LeastIs (w : World) (base : Nat) (v' : Value) (q e : Int) (cs : List Chg) : Prop :=
  (q = e ∧ q ≠ 0 ∧ v' = .slice none 0 0) ∨ (e = 0 ∧ q = 0 ∧ ∃ G, OwnC w base v' (G.map toGone ++ (applyP [] cs).map toPut) ∧ Fits G (goneP cs))
theorem LeastIs.err {w : World} {base : Nat} {q : Int} {cs : List Chg} (h : q ≠ 0) : LeastIs w base (.slice none 0 0) q q cs := .inl ⟨rfl, h, rfl⟩
theorem LeastIs.ok {w : World} {base : Nat} {v' : Value} {cs : List Chg} {G : List (K × K)} (h1 : OwnC w base v' (G.map toGone ++ (applyP [] cs).map toPut)) (h2 : Fits G (goneP cs)) : LeastIs w base v' 0 0 cs := .inr ⟨rfl, rfl, G, h1, h2⟩

set_option maxHeartbeats 16000000 in
set_option maxRecDepth 100000 in
theorem pleast_any (l : List Chg) (hs : ∀ c ∈ l, smallC c) (v : Value) (w : World) (hv : RdC w w.heap.size v l) (hl : l.length ≤ 900000) :
    Calls Try.prog 23 #[v] w fun e w' => ∃ v' q, e = .returned (.tuple #[v', .int .i64 q]) ∧ Below w.heap.size w w' ∧ LeastIs w' w.heap.size v' q (allAns l) l := by
  have hfirst := first_any l hs v w hv (by omega)
  have haft := fun (h : ∀ c ∈ l, checkAns c = 0) W (h4 : RdC W W.heap.size v l) => after_any [] l .nil h (by simp; omega) (.slice none 0 0) v W (Rd.nil _ _) h4
  have hnamed := fun W (h : RdC W W.heap.size v l) => named_any l hs v W h (by omega)
  have hKl : (applyP [] l).length ≤ l.length := by have := applyP_length [] l; simpa using this
  have hmiss := fun (hks : ∀ p ∈ applyP [] l, p.1.size < 4611686018427387904) (J : List (K × K)) (h1 : Normal J) (h2 : J.length ≤ l.length) vj vp W h3 h4 => missing_any J (applyP [] l) h1 hks vj vp W h3 h4 (by omega)
  have hks : (∀ c ∈ l, checkAns c = 0) → ∀ p ∈ applyP [] l, p.1.size < 4611686018427387904 := fun h p hp => by
    rcases mem_applyP hp with h2 | ⟨c, hc, _, rfl⟩
    · simp at h2
    · have := (check_size (h c hc)).1; simp only; omega
  have hgs := fun (h : ∀ c ∈ l, checkAns c = 0) (G : List (K × K)) (hG : Fits G (fun k => mem (l.map cspan) k ∧ k ∉ (applyP [] l).map (·.1))) => (gone_spans hG)
  have hfin : ∀ (h : ∀ c ∈ l, checkAns c = 0) (w' : World) (base : Nat) (v' : Value) (G : List (K × K)), Fits G (fun k => mem (l.map cspan) k ∧ k ∉ (applyP [] l).map (·.1)) → OwnC w' base v' (G.map toEr ++ (applyP [] l).map toPut) → LeastIs w' base v' 0 0 l := fun h w' base v' G hG ho => by
    have e : G.map toEr = G.map toGone := List.map_congr_left fun s hs => toEr_eq (((gone_spans hG).2 h) s hs).2
    rw [e] at ho
    exact LeastIs.ok ho (hG.congr fun k => (gone_eq l k).symm)
  obtain ⟨K0, hK0⟩ : ∃ K0, K0 = applyP [] l := ⟨_, rfl⟩
  rw [← hK0] at hKl hmiss hks hgs hfin
  simp only [← hK0] at haft
  have HALL := Lib.hid (fun (h : allAns l = 0) => allAns_zero.1 h)
  have HF := Lib.hid hfirst; clear hfirst
  have HA := Lib.hid haft; clear haft
  have HN := Lib.hid hnamed; clear hnamed
  have HMS := Lib.hid hmiss; clear hmiss
  have HKS := Lib.hid hks; clear hks
  have HGS := Lib.hid hgs; clear hgs
  have HFIN := Lib.hid hfin; clear hfin
  have HV := Lib.hid hv; clear hv
  clear hs hK0
  generalize hq : allAns l = q at HF HALL ⊢
  clear hq
  go_enter Try.func23, Try.ntmps23
  go_wp2_with fail
  refine HF.out.mono ?_
  rintro e w1 ⟨rfl, hb1⟩
  have HV1 := Lib.hid (HV.out.next hb1)
  have HB1 := Lib.hid hb1; clear hb1 HV
  by_cases h0 : q = 0
  · subst h0
    have HALL0 := Lib.hid (HALL.out rfl); clear HALL
    go_wp2_with fail
    refine (HA.out HALL0.out w1 HV1.out).mono ?_
    rintro e w2 ⟨A2, c2, rfl, ho2, hb2⟩
    have HB2 := Lib.hid (HB1.out.trans (hb2.mono HB1.out.size))
    have HV2 := Lib.hid (HV1.out.next hb2)
    have HR2 := Lib.hid (show RdP w2 w2.heap.size (.slice A2 K0.length c2) K0 from ho2.rd cellsS_len)
    clear ho2 hb2 HV1 HB1 HA HF
    go_wp2_with fail
    refine (HN.out w2 HV2.out).mono ?_
    rintro e w3 ⟨v3, J, rfl, ho3, hb3, hf3, _⟩
    have HB3 := Lib.hid (HB2.out.trans (hb3.mono HB2.out.size))
    have HR3 := Lib.hid (HR2.out.next hb3)
    have hjl := named_len hf3
    have HJN := Lib.hid hf3.1
    have HJM := Lib.hid hf3.2
    have HRJ := Lib.hid ho3.rd
    clear ho3 hb3 hf3 HV2 HB2 HR2 HN
    go_wp2_with fail
    refine (HMS.out (HKS.out HALL0.out) J HJN.out hjl v3 _ w3 HRJ.out HR3.out).mono ?_
    rintro e w4 ⟨v4, G, rfl, ho4, hb4, hf4⟩
    have HB4 := Lib.hid (HB3.out.trans (hb4.mono HB3.out.size))
    have hR4 := HR3.out.next hb4
    have HFG := Lib.hid (show Fits G (fun k => mem (l.map cspan) k ∧ k ∉ K0.map (·.1)) from hf4.congr fun k => by rw [HJM.out k])
    have hgl := (HGS.out HALL0.out G HFG.out).1
    have HGZ := Lib.hid ((HGS.out HALL0.out G HFG.out).2 HALL0.out)
    obtain ⟨AG, cG, rfl, hgi⟩ := OwnS.read ho4
    obtain ⟨AK, cK, hkv, _, hki⟩ := RdP.at hR4
    injection hkv with hk1 _ hk3
    subst hk1 hk3
    obtain ⟨g4, hg4⟩ : ∃ g4, g4 = w4.heap.size := ⟨_, rfl⟩
    have hgi2 : ∀ i (_ : i < G.length), ∃ b, AG = some ⟨b, 0, none⟩ ∧ ∀ W, Below g4 w4 W → W.cell? ⟨b, i * 2, none⟩ = some (.string G[i].1) ∧ W.cell? ⟨b, i * 2 + 1, none⟩ = some (.string G[i].2) := fun i h => by
      obtain ⟨b, hA, _, hbB, k0, k1⟩ := hgi i h
      rw [← hg4] at hbB
      exact ⟨b, hA, fun W hW => ⟨(hW.cell (p := ⟨b, _, none⟩) hbB).trans k0, (hW.cell (p := ⟨b, _, none⟩) hbB).trans k1⟩⟩
    have hki2 : ∀ i (_ : i < K0.length), ∃ b o, A2 = some ⟨b, o, none⟩ ∧ ∀ W, Below g4 w4 W → W.cell? ⟨b, o + i * 2, none⟩ = some (.string K0[i].1) ∧ W.cell? ⟨b, o + i * 2 + 1, none⟩ = some (.string K0[i].2) := fun i h => by
      obtain ⟨b, o, hA, hbB, k0, k1⟩ := hki i h
      rw [← hg4] at hbB
      exact ⟨b, o, hA, fun W hW => ⟨(hW.cell (p := ⟨b, _, none⟩) hbB).trans k0, (hW.cell (p := ⟨b, _, none⟩) hbB).trans k1⟩⟩
    have HGI := Lib.hid hgi2; clear hgi2 hgi
    have HKI := Lib.hid hki2; clear hki2 hki
    have HG4 := Lib.hid hg4; clear hg4
    clear ho4 hb4 hf4 hR4 HRJ HR3 HB3 HJN HJM HMS HKS HGS
    go_wp2_with fail
    go_loopw [6, 23] (fun ov iv wr => ∃ (i : Nat) (A' : Option Addr) (c' : Nat) (O : List Chg), i ≤ G.length ∧ iv = .int .i64 i ∧ ov = .slice A' O.length c' ∧ Hid (O = (G.take i).map toEr) ∧ Hid (OwnC wr g4 (.slice A' O.length c') O) ∧ Hid (Below g4 w4 wr)) (fun _ iv _ => G.length - (intOf iv).toNat)
    case atStart => exact ⟨0, none, 0, [], Nat.zero_le _, rfl, rfl, Lib.hid (by simp), Lib.hid (Own.nil _ _), Lib.hid (Below.refl _ _)⟩
    case round =>
      obtain ⟨i, A', c', O, hil, rfl, rfl, HOE, HO, HB⟩ := hrel
      have hgr : g4 ≤ wr.heap.size := Nat.le_trans (by rw [HG4.out]; exact Nat.le_refl _) HB.out.size
      have HOL := Lib.hid (show O.length = i by rw [HOE.out]; simp; omega)
      by_cases hlt : i < G.length
      · obtain ⟨b, rfl, hcl⟩ := HGI.out i hlt
        obtain ⟨k0, k1⟩ := hcl wr HB.out
        have hz := (HGZ.out G[i] (List.getElem_mem hlt)).1
        have hnext : (G.take (i + 1)).map toEr = O ++ [toEr G[i]] := by rw [HOE.out, List.take_succ_eq_append_getElem hlt, List.map_append]; rfl
        have her := fun W => erase_any G[i] W (by omega)
        rw [show (if G[i].2 = G[i].1 ++ ⟨#[0]⟩ then (⟨2, G[i].1, ⟨#[]⟩⟩ : Chg) else ⟨3, G[i].1, G[i].2⟩) = toEr G[i] from rfl] at her
        generalize toEr G[i] = d at her hnext
        clear hcl hz
        generalize G[i] = z at k0 k1 her
        obtain ⟨x, y⟩ := z
        simp only at k0 k1 her
        unfold cval at her
        obtain ⟨dk, dx, dy⟩ := d
        simp only at her
        have HER := Lib.hid her; clear her
        have HNX := Lib.hid hnext; clear hnext
        go_wp2_with fail
        refine (HER.out _).mono ?_
        rintro e w5 ⟨rfl, hb5⟩
        have HB5 := Lib.hid (show Below g4 w4 w5 from (HB.out.alloc hgr _).trans (hb5.mono (by rw [World.size_alloc]; omega)))
        have HO5 := Lib.hid (show OwnC w5 g4 _ _ from (HO.out.alloc _).below hb5 (Nat.le_refl _))
        have hg5 : g4 ≤ w5.heap.size := Nat.le_trans hgr (Nat.le_trans (by simp) hb5.size)
        clear hb5 k0 k1
        go_wp2_with (at_builtin; go_must (refine wpList_addC rfl _ _ rfl g4 (.slice A' O.length c') O rfl ?f1 (w5.heap.size + 1) _ [⟨dk, dx, dy⟩] rfl (RdC.one w5 ⟨dk, dx, dy⟩) (by have := HOL.out; simp; omega) ?f2 g4 w4 ?f3 (Nat.le_refl _) ?f4))
        case f1 => exact HO5.out.alloc _
        case f2 => simp; omega
        case f3 => exact HB5.out.alloc hg5 _
        intro A6 c6 w6 ho6 hb6 _
        go_wp2_with fail
        go_roundw
        case rel => exact ⟨i + 1, A6, c6, O ++ [⟨dk, dx, dy⟩], by omega, by go_num, by simp, Lib.hid HNX.out.symm, by rw [show (O ++ [(⟨dk, dx, dy⟩ : Chg)]).length = O.length + 1 by simp]; exact ho6, hb6⟩
        case measure => simp [intOf]; omega
      · obtain rfl : i = G.length := by omega
        have hOE := HOE.out
        rw [List.take_length] at hOE
        have HOE2 := Lib.hid hOE; clear hOE HOE
        obtain ⟨E, hE⟩ : ∃ E, E = O := ⟨_, rfl⟩
        have HE := Lib.hid hE; clear hE
        go_wp2_with fail
        go_loopw [6, 35] (fun ov iv wr => ∃ (i : Nat) (A' : Option Addr) (c' : Nat) (O : List Chg), i ≤ K0.length ∧ iv = .int .i64 i ∧ ov = .slice A' O.length c' ∧ Hid (O = E ++ (K0.take i).map toPut) ∧ Hid (OwnC wr g4 (.slice A' O.length c') O) ∧ Hid (Below g4 w4 wr)) (fun _ iv _ => K0.length - (intOf iv).toNat)
        case atStart => exact ⟨0, A', c', O, Nat.zero_le _, rfl, rfl, Lib.hid (by rw [HE.out]; simp), HO, HB⟩
        case round =>
          clear HO HB hgr
          obtain ⟨j, A7, c7, O7, hjl7, rfl, rfl, HOE7, HO7, HB7⟩ := hrel
          have hgr : g4 ≤ wr.heap.size := Nat.le_trans (by rw [HG4.out]; exact Nat.le_refl _) HB7.out.size
          have HOL7 := Lib.hid (show O7.length = G.length + j by rw [HOE7.out, HE.out, HOE2.out]; simp; omega)
          by_cases hlt7 : j < K0.length
          · obtain ⟨b, o, rfl, hcl⟩ := HKI.out j hlt7
            obtain ⟨k0, k1⟩ := hcl wr HB7.out
            have hnext : E ++ (K0.take (j + 1)).map toPut = O7 ++ [toPut K0[j]] := by rw [HOE7.out, List.take_succ_eq_append_getElem hlt7, List.map_append, List.append_assoc]; rfl
            have hpt := fun W => cput_any K0[j] W
            clear hcl
            unfold toPut at hnext
            generalize K0[j] = z at k0 k1 hpt hnext
            obtain ⟨x, y⟩ := z
            simp only at k0 k1 hpt hnext
            have HPT := Lib.hid hpt; clear hpt
            have HNX := Lib.hid hnext; clear hnext
            go_wp2_with fail
            refine (HPT.out _).mono ?_
            rintro e w5 ⟨rfl, hb5⟩
            have HB5 := Lib.hid (show Below g4 w4 w5 from (HB7.out.alloc hgr _).trans (hb5.mono (by rw [World.size_alloc]; omega)))
            have HO5 := Lib.hid (show OwnC w5 g4 _ _ from (HO7.out.alloc _).below hb5 (Nat.le_refl _))
            have hg5 : g4 ≤ w5.heap.size := Nat.le_trans hgr (Nat.le_trans (by simp) hb5.size)
            clear hb5 k0 k1
            go_wp2_with (at_builtin; go_must (refine wpList_addC rfl _ _ rfl g4 (.slice A7 O7.length c7) O7 rfl ?h1 (w5.heap.size + 1) _ [⟨1, x, y⟩] rfl (RdC.one w5 ⟨1, x, y⟩) (by have := HOL7.out; simp; omega) ?h2 g4 w4 ?h3 (Nat.le_refl _) ?h4))
            case h1 => exact HO5.out.alloc _
            case h2 => simp; omega
            case h3 => exact HB5.out.alloc hg5 _
            intro A8 c8 w8 ho8 hb8 _
            go_wp2_with fail
            go_roundw
            case rel => exact ⟨j + 1, A8, c8, O7 ++ [⟨1, x, y⟩], by omega, by go_num, by simp, Lib.hid (by rw [← HNX.out]; rfl), by rw [show (O7 ++ [(⟨1, x, y⟩ : Chg)]).length = O7.length + 1 by simp]; exact ho8, hb8⟩
            case measure => simp [intOf]; omega
          · obtain rfl : j = K0.length := by omega
            have hOE := HOE7.out
            rw [List.take_length, HE.out, HOE2.out] at hOE
            have HOE3 := Lib.hid hOE; clear hOE
            go_wp2_with fail
            go_ret2
            have hwg : w.heap.size ≤ g4 := by rw [HG4.out]; exact HB4.out.size
            exact ⟨_, _, rfl, HB4.out.trans (HB7.out.mono hwg), HFIN.out HALL0.out _ _ _ G HFG.out (by rw [← HOE3.out]; exact HO7.out.lower hwg)⟩
  · have H0 := Lib.hid h0
    go_wp2_with fail
    go_ret2
    exact ⟨_, _, rfl, HB1.out, LeastIs.err H0.out⟩
end Go.Proofs.Ytdkdolcocblhkaa
