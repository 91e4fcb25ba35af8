/- What Text answers. -/
import Derived.Test.YtaenlkopjmgniaaRd2
import Derived.StillTailTactics
namespace Go.Proofs.Ytaenlkopjmgniaa
open Go.RowKit

set_option maxRecDepth 100000 in
theorem NumW.away {w w' : World} {p q used s : Nat} {t : TypeId} {cs : List Value} {r : Nat × Nat × Nat} {o : Nat} (hs : Whole w s t cs) (h1 : s ≠ p) (h2 : s ≠ q) (h : NumW p q o used r w w') : Whole w' s t cs := by
  rcases h with ⟨_, k, rfl⟩ | ⟨_, k, rfl⟩
  · exact (hs.away (p := ⟨q, o, none⟩) h2 _).away (p := ⟨p, 1, none⟩) h1 _
  · exact (hs.away (p := ⟨p, 1, none⟩) h1 _).away (p := ⟨p, 2, none⟩) h1 _

set_option maxRecDepth 100000 in
/-- two blocks stand as they are, and a third one stands -/
def Three (q : Nat) (t : TypeId) (cq : List Value) (p : Nat) (tp : TypeId) (cp : List Value) (s : Nat) (ts : TypeId) (w0 : World) (B : Nat) (W : World) : Prop :=
  Whole W q t cq ∧ Whole W p tp cp ∧ (∃ z, Whole W s ts [z]) ∧ Below B w0 W
set_option maxRecDepth 100000 in
theorem Three.drew {q p s : Nat} {t tp ts : TypeId} {cq cp : List Value} {w0 W : World} {B : Nat} (h : Three q t cq p tp cp s ts w0 B W) : Three q t cq p tp cp s ts w0 B W.drew := ⟨h.1, h.2.1, h.2.2.1, h.2.2.2.drew⟩

set_option maxHeartbeats 8000000 in
set_option maxRecDepth 100000 in
theorem rdtext_any (base p s : Nat) (l : List UInt8) (A : Option Addr) (c : Nat) (w : World) (hw : Rdr w base p (.slice A l.length c) 0 0) (hv : RdB w base (.slice A l.length c) l) (hl : l.length < 4611686018427387904)
    (hs : Whole w s 9 [.string ⟨#[]⟩]) (hsp : s ≠ p) (hbs : base ≤ s) (hbw : base ≤ w.heap.size) :
    Calls Try.prog 42 #[.pointer (some ⟨p, 0, none⟩), .pointer (some ⟨s, 0, none⟩)] w fun x w' => x = .returned (.pointer (some ⟨p, 0, none⟩)) ∧
      Rdr w' base p (.slice A l.length c) ((textAns l).2.1 : Int) ((textAns l).2.2 : Int) ∧ Whole w' s 9 [.string (strB (textAns l).1)] ∧ Below base w w' := by
  have hps := hw.1.size
  have hss := hs.size
  have hnum := fun (w1 : World) (h1 : Rdr w1 base p (.slice A l.length c) 0 0) (h2 : Whole w1 w.heap.size 3 [.int .i64 0]) (h3 : Below base w w1) =>
    rdnum_any base p l A c 0 w.heap.size 0 (.int .i64 0) w1 h1 (hv.below h3 (Nat.le_refl _)) (Nat.zero_le _) hl (h2.cell 0 _ rfl) (h2.frozen 0) (by omega) hbw
  have hk := fun (w1 w2 : World) (h1 : Rdr w1 base p (.slice A l.length c) 0 0) (h2 : Whole w1 w.heap.size 3 [.int .i64 0]) (h3 : Whole w1 s 9 [.string ⟨#[]⟩]) (h : NumW p w.heap.size 0 0 (numAns l) w1 w2) => And.intro (NumW.away h3 hsp (by omega) h) (NumW.first h1 h2 (by omega) hbw h)
  simp only [List.drop_zero] at hnum
  have hpq : p ≠ w.heap.size := by omega
  have hsq : s ≠ w.heap.size := by omega
  obtain ⟨g, hg⟩ : ∃ g, g = w.heap.size := ⟨_, rfl⟩
  obtain ⟨R, hR⟩ : ∃ R, R = textAns l := ⟨_, rfl⟩
  rw [← hR]
  have herr := numAns_err l
  have honce := fun (m u : Nat) (h : numAns l = (m, u, 0)) => numAns_once h
  unfold textAns at hR
  generalize numAns l = x at hnum hR herr honce hk
  obtain ⟨n, u, e⟩ := x
  simp only at hR herr hk
  obtain ⟨hwr, hbp⟩ := hw
  have HNUM := Lib.hid hnum
  have HK := Lib.hid hk
  have HWR := Lib.hid hwr
  have HS := Lib.hid hs
  have HV := Lib.hid hv
  have HERR := Lib.hid herr
  have HONCE := Lib.hid honce
  have HR := Lib.hid hR
  have HSP := Lib.hid hsp
  have HPQ := Lib.hid hpq
  have HSQ := Lib.hid hsq
  have HG := Lib.hid hg
  clear hnum hk hwr hs hv herr honce hR hg hsp hpq hsq
  go_enter Try.func42, Try.ntmps42
  go_wp2_with fail
  refine (HNUM.out _ ⟨HWR.out.alloc _, hbp⟩ (Whole.fresh w 3 [.int .i64 0]) ((Below.refl _ _).alloc hbw _)).mono ?_
  rintro x w2 ⟨rfl, hn⟩
  obtain ⟨hs2, hb2, ⟨hr2, _⟩, hq2⟩ := HK.out _ w2 ⟨HWR.out.alloc _, hbp⟩ (Whole.fresh w 3 [.int .i64 0]) (HS.out.alloc _) hn
  have hB2 : Below base w w2 := ((Below.refl _ _).alloc hbw _).trans hb2
  clear hn hb2
  rw [← HG.out] at hq2
  have HS2 := Lib.hid hs2
  have HB2 := Lib.hid hB2
  have HR2 := Lib.hid hr2
  have HQ2 := Lib.hid hq2
  have k0 := hr2.cell 0 _ rfl
  have k1 := hr2.cell 1 _ rfl
  have k2 := hr2.cell 2 _ rfl
  have q0 := hq2.cell 0 _ rfl
  clear hs2 hB2 hr2 hq2
  rw [HG.out] at q0
  by_cases he : e = 0
  · subst he
    have hR := HR.out
    rw [if_neg (by omega)] at hR
    by_cases hbig : n > 65536
    · rw [if_pos hbig] at hR
      have HRR := Lib.hid hR
      clear hR
      have hb : (65536 : Int) < (n : Int) := by omega
      go_wp2_with fail
      refine (rfail_any base p _ _ _ 6 w2 ⟨HR2.out, hbp⟩).mono ?_
      rintro x w3 ⟨rfl, rfl⟩
      go_wp2_with fail
      go_ret
      exact ⟨rfl, by rw [HRR.out]; exact Rdr.failed 6 ⟨HR2.out, hbp⟩, by rw [HRR.out]; exact (HS2.out.away (p := ⟨p, 1, none⟩) HSP.out _).away (p := ⟨p, 2, none⟩) HSP.out _, (HB2.out.setCell (p := ⟨p, 1, none⟩) hbp _).setCell (p := ⟨p, 2, none⟩) hbp _⟩
    · rw [if_neg hbig] at hR
      have hb : ¬ (65536 : Int) < (n : Int) := by omega
      obtain ⟨hu, hu9, hu1, sx, hsx⟩ := HONCE.out n u rfl
      have hlu : u ≤ l.length := by rw [hu, hsx]; simp
      clear hu hsx
      obtain ⟨A0, c0', e, hcl, hi⟩ := HV.out.at
      injection e with e1 _ e2
      subst e1 e2
      obtain ⟨b, o, hA⟩ : ∃ b o, A = some ⟨b, o, none⟩ := by obtain ⟨b, o, h, _⟩ := hi 0 (by omega); exact ⟨b, o, h⟩
      subst hA
      clear hi
      by_cases hsh : l.length - u < n
      · rw [if_pos hsh] at hR
        have HRR := Lib.hid hR
        clear hR
        have hb2 : (l.length : Int) - (u : Int) < (n : Int) := by omega
        go_wp2_with fail
        go_quiet (fail)
        go_wp2_with fail
        refine (rfail_any base p _ _ _ 3 (w2.drewN nq) ⟨HR2.out, hbp⟩).mono ?_
        rintro x w3 ⟨rfl, rfl⟩
        go_wp2_with fail
        go_ret
        exact ⟨rfl, by rw [HRR.out]; exact Rdr.failed (w := w2.drewN nq) 3 ⟨HR2.out, hbp⟩, by rw [HRR.out]; exact (Whole.away (w := w2.drewN nq) HS2.out (p := ⟨p, 1, none⟩) HSP.out _).away (p := ⟨p, 2, none⟩) HSP.out _, ((Below.drewN' HB2.out nq).setCell (p := ⟨p, 1, none⟩) hbp _).setCell (p := ⟨p, 2, none⟩) hbp _⟩
      · rw [if_neg hsh] at hR
        have HRR := Lib.hid hR
        clear hR
        have hb2 : ¬ (l.length : Int) - (u : Int) < (n : Int) := by omega
        go_wp2_with fail
        go_quiet (fail)
        go_wp2_with fail
        refine wp_region_plan (S := Three w.heap.size 3 [.int .i64 (n : Int)] p 74 [.slice (some ⟨b, o, none⟩) l.length c, .int .i64 (u : Int), .int .i64 0] s 9 w base) [(true, 0), (true, 1), (true, 2), (true, 3), (true, 4), (true, 5), (true, 6), (true, 7), (true, 8), (true, 9), (true, 10), (true, 11), (true, 12), (true, 13), (true, 14), (true, 15), (true, 16), (true, 17), (false, 18)] (by kernel_rfl) (by kernel_rfl) (fun _ _ d _ _ h => by cases d <;> exact h) ⟨by rw [← HG.out]; exact HQ2.out, HR2.out, ⟨_, HS2.out⟩, (Below.drewN' HB2.out nq).drew⟩ ?_
        have hS : Three w.heap.size 3 [.int .i64 (n : Int)] p 74 [.slice (some ⟨b, o, none⟩) l.length c, .int .i64 (u : Int), .int .i64 0] s 9 w base (w2.drewN nq).drew := ⟨by rw [← HG.out]; exact HQ2.out, HR2.out, ⟨_, HS2.out⟩, (Below.drewN' HB2.out nq).drew⟩
        clear k0 k1 k2 q0
        have hs3 : Whole (w2.drewN nq).drew s 9 [.string ⟨#[]⟩] := HS2.out
        generalize (w2.drewN nq).drew = w3 at hS hs3 ⊢
        have HZ := Lib.hid hs3; clear hs3
        have HS3 := Lib.hid hS; clear hS
        have hw : IntKind.i64.wrap ((u : Int) + (n : Int)) = (u : Int) + n := by rw [IntKind.wrap_i64]; omega
        have hn0 : (0 : Int) ≤ (u : Int) + n := by omega
        have hnt : ((u : Int) + n).toNat = u + n := by omega
        have hcn : (u : Int) + n ≤ (c : Int) := by omega
        have hHV := HV.out
        have hcv : ∀ W, Below base w W → (convert 36 9 (.slice (if c = u then some ⟨b, o, none⟩ else some ⟨b, o + u, none⟩) n (c - u))).run Try.prog W = .ok (.string (strB ((l.drop u).take n))) W := fun W hW => by
          refine run_convB (RdB.window (hHV.below hW (Nat.le_refl _)) u n (by omega) (c - u) (by omega) _ fun h => ?_)
          rw [if_neg (by omega)]
        have HCV := Lib.hid hcv; clear hcv hHV
        by_cases hcu : c = u
        · have HCV2 := HCV.out
          rw [if_pos hcu] at HCV2
          have HCV3 := Lib.hid HCV2; clear HCV2 HCV
          have hlu2 : l.length = u := by omega
          have hn00 : n = 0 := by omega
          subst hn00
          subst hcu
          subst hlu2
          have hw0 : IntKind.i64.wrap (l.length : Int) = l.length := by rw [IntKind.wrap_i64]; omega
          have HCV5 := HCV3.out
          rw [Nat.sub_self, List.take_zero] at HCV5
          clear hw hn0 hnt hcn HCV3
          have HCV3 := Lib.hid HCV5; clear HCV5
          repeat (refine Plan.take (v := ?_) rfl rfl ?_ ?_; rotate_left; (focus (intro W hW; have k0 := hW.1.cell 0 _ rfl; have k1 := hW.2.1.cell 0 _ rfl; have k2 := hW.2.1.cell 1 _ rfl; have k3 := HCV3.out W hW.2.2.2; go_simp; (try with_reducible rfl); done)); (try simp only [Act.put, List.setIfInBounds_toArray, List.set_cons_zero, List.set_cons_succ]))
          have z0 := HZ.out.cell 0 _ rfl
          have y0 := HZ.out.frozen 0
          refine Plan.step rfl rfl (fun Kk hK => ?_)
          go_simp
          obtain ⟨txt, htxt⟩ : ∃ txt, txt = strB [] := ⟨_, rfl⟩
          rw [← htxt]
          have hS4 : Three w.heap.size 3 [.int .i64 ((0 : Nat) : Int)] p 74 [.slice (some ⟨b, o, none⟩) l.length l.length, .int .i64 (l.length : Int), .int .i64 0] s 9 w base (w3.setCell ⟨s, 0, none⟩ (.string txt)) := ⟨HS3.out.1.away (p := ⟨s, 0, none⟩) (Ne.symm HSQ.out) _, HS3.out.2.1.away (p := ⟨s, 0, none⟩) (Ne.symm HSP.out) _, ⟨_, HZ.out.put 0 _⟩, HS3.out.2.2.2.setCell (p := ⟨s, 0, none⟩) hbs _⟩
          have hs4 : Whole (w3.setCell ⟨s, 0, none⟩ (.string txt)) s 9 [.string txt] := HZ.out.put 0 _
          refine hK.out _ _ hS4 ?_
          clear hK Kk z0 y0 HS3 HZ HCV3
          generalize w3.setCell ⟨s, 0, none⟩ (.string txt) = w4 at hS4 hs4 ⊢
          have HS4 := Lib.hid hS4; clear hS4
          have HZ4 := Lib.hid hs4; clear hs4
          simp only [Plan]
          go_wp2_with fail
          have p1 := HS4.out.2.1.cell 1 _ rfl
          have p1f := HS4.out.2.1.frozen 1
          have q0 := HS4.out.1.cell 0 _ rfl
          go_still_tail 8, (by kernel_rfl)
          have hz5 : Whole w4.drew s 9 [.string txt] := HZ4.out
          have hs5 := HS4.out.drew
          change wpList _ _ _ _ _ w4.drew
          clear p1 p1f q0 HS4 HZ4
          generalize w4.drew = w5 at hz5 hs5 ⊢
          have p1 := hs5.2.1.cell 1 _ rfl
          have p1f := hs5.2.1.frozen 1
          have HS5 := Lib.hid hs5
          have HZ5 := Lib.hid hz5
          have HTXT := Lib.hid htxt
          clear hs5 hz5 htxt
          go_wp2_with fail
          go_ret
          exact ⟨rfl, by rw [HRR.out]; exact ⟨HS5.out.2.1.put 1 _, hbp⟩, by rw [HRR.out]; simp only [List.take_zero]; rw [← HTXT.out]; exact HZ5.out.away (p := ⟨p, 1, none⟩) HSP.out _, HS5.out.2.2.2.setCell (p := ⟨p, 1, none⟩) hbp _⟩
        · have HCV2 := HCV.out
          rw [if_neg hcu] at HCV2
          have HCV3 := Lib.hid HCV2; clear HCV2 HCV
          repeat (refine Plan.take (v := ?_) rfl rfl ?_ ?_; rotate_left; (focus (intro W hW; have k0 := hW.1.cell 0 _ rfl; have k1 := hW.2.1.cell 0 _ rfl; have k2 := hW.2.1.cell 1 _ rfl; have k3 := HCV3.out W hW.2.2.2; go_simp; (try with_reducible rfl); done)); (try simp only [Act.put, List.setIfInBounds_toArray, List.set_cons_zero, List.set_cons_succ]))
          have z0 := HZ.out.cell 0 _ rfl
          have y0 := HZ.out.frozen 0
          refine Plan.step rfl rfl (fun Kk hK => ?_)
          go_simp
          obtain ⟨txt, htxt⟩ : ∃ txt, txt = strB ((l.drop u).take n) := ⟨_, rfl⟩
          rw [← htxt]
          have hS4 : Three w.heap.size 3 [.int .i64 (n : Int)] p 74 [.slice (some ⟨b, o, none⟩) l.length c, .int .i64 (u : Int), .int .i64 0] s 9 w base (w3.setCell ⟨s, 0, none⟩ (.string txt)) := ⟨HS3.out.1.away (p := ⟨s, 0, none⟩) (Ne.symm HSQ.out) _, HS3.out.2.1.away (p := ⟨s, 0, none⟩) (Ne.symm HSP.out) _, ⟨_, HZ.out.put 0 _⟩, HS3.out.2.2.2.setCell (p := ⟨s, 0, none⟩) hbs _⟩
          have hs4 : Whole (w3.setCell ⟨s, 0, none⟩ (.string txt)) s 9 [.string txt] := HZ.out.put 0 _
          refine hK.out _ _ hS4 ?_
          clear hK Kk z0 y0 HS3 HZ HCV3
          generalize w3.setCell ⟨s, 0, none⟩ (.string txt) = w4 at hS4 hs4 ⊢
          have HS4 := Lib.hid hS4; clear hS4
          have HZ4 := Lib.hid hs4; clear hs4
          simp only [Plan]
          go_wp2_with fail
          have p1 := HS4.out.2.1.cell 1 _ rfl
          have p1f := HS4.out.2.1.frozen 1
          have q0 := HS4.out.1.cell 0 _ rfl
          go_still_tail 8, (by kernel_rfl)
          have hz5 : Whole w4.drew s 9 [.string txt] := HZ4.out
          have hs5 := HS4.out.drew
          change wpList _ _ _ _ _ w4.drew
          clear p1 p1f q0 HS4 HZ4
          generalize w4.drew = w5 at hz5 hs5 ⊢
          have p1 := hs5.2.1.cell 1 _ rfl
          have p1f := hs5.2.1.frozen 1
          have HS5 := Lib.hid hs5
          have HZ5 := Lib.hid hz5
          have HTXT := Lib.hid htxt
          clear hs5 hz5 htxt
          go_wp2_with fail
          go_ret
          exact ⟨rfl, by rw [HRR.out]; exact ⟨HS5.out.2.1.put 1 _, hbp⟩, by rw [HRR.out]; simp only; rw [← HTXT.out]; exact HZ5.out.away (p := ⟨p, 1, none⟩) HSP.out _, HS5.out.2.2.2.setCell (p := ⟨p, 1, none⟩) hbp _⟩
  · rcases HERR.out with h | h | h
    · exact absurd h he
    all_goals
      simp only [Prod.mk.injEq] at h
      obtain ⟨rfl, rfl, rfl⟩ := h
      have hR := HR.out
      rw [if_pos (by decide)] at hR
      have HRR := Lib.hid hR
      clear hR
      go_wp2_with fail
      go_ret
      exact ⟨rfl, by rw [HRR.out]; exact ⟨HR2.out, hbp⟩, by rw [HRR.out]; exact HS2.out, HB2.out⟩

set_option maxHeartbeats 4000000 in
set_option maxRecDepth 100000 in
theorem text_any (l : List UInt8) (v : Value) (w : World) (hv : RdB w w.heap.size v l) (hl : l.length < 4611686018427387904) :
    Calls Try.prog 34 #[v] w fun e w' => e = .returned (textVal (textAns l)) ∧ Below w.heap.size w w' := by
  obtain ⟨A, c, rfl, hc, _⟩ := hv.at
  have hrd := fun (w1 : World) (p : Nat) (h1 : Rdr w1 w.heap.size p (.slice A l.length c) 0 0) (h2 : Whole w1 w.heap.size 9 [.string ⟨#[]⟩]) (h3 : w.heap.size ≠ p) (h4 : Below w.heap.size w w1) (h5 : w.heap.size ≤ w1.heap.size) =>
    rdtext_any w.heap.size p w.heap.size l A c w1 h1 (hv.below h4 (Nat.le_refl _)) hl h2 h3 (Nat.le_refl _) h5
  obtain ⟨R, hR⟩ : ∃ R, R = textAns l := ⟨_, rfl⟩
  rw [← hR] at hrd ⊢
  have HRD := Lib.hid hrd
  clear hrd hR hv
  go_enter Try.func34, Try.ntmps34
  go_wp2_with fail
  refine (from_any _ _ A l.length c rfl).mono ?_
  rintro e w1 ⟨p, rfl, hr1, hb1, hp⟩
  have hw1 : Whole w1 w.heap.size 9 [.string ⟨#[]⟩] := (Whole.fresh w 9 [.string ⟨#[]⟩]).below hb1 (by simp)
  have hne : w.heap.size ≠ p := by rw [hp]; simp
  have hr2 : Rdr w1 w.heap.size p (.slice A l.length c) 0 0 := ⟨hr1.1, by rw [hp]; simp⟩
  have hb2 : Below w.heap.size w w1 := ((Below.refl _ _).alloc (Nat.le_refl _) _).trans (hb1.mono (by simp))
  have HC := Lib.hid (HRD.out w1 p hr2 hw1 hne hb2 hb2.size)
  have HB2 := Lib.hid hb2
  have HP := Lib.hid hp
  have HNE := Lib.hid hne
  clear hw1 hr1 hr2 hb1 hb2 hp hne
  go_wp2_with fail
  refine HC.out.mono ?_
  rintro e w2 ⟨rfl, hr3, hq3, hb3⟩
  have hB3 := HB2.out.trans hb3
  clear hb3
  go_wp2_with fail
  obtain ⟨txt, htxt⟩ : ∃ txt, txt = strB R.1 := ⟨_, rfl⟩
  rw [← htxt] at hq3
  have HTXT := Lib.hid htxt
  clear htxt
  have hS : Both w.heap.size 9 [.string txt] p 74 [.slice A l.length c, .int .i64 (R.2.1 : Int), .int .i64 (R.2.2 : Int)] w w.heap.size w2.drew := ⟨hq3, hr3.1, hB3.drew⟩
  refine wp_region_plan (S := Both w.heap.size 9 [.string txt] p 74 [.slice A l.length c, .int .i64 (R.2.1 : Int), .int .i64 (R.2.2 : Int)] w w.heap.size) [(true, 0), (true, 1), (true, 2), (true, 3), (true, 4), (true, 5), (true, 6), (true, 7), (true, 8), (false, 9), (true, 10), (true, 11)] (by kernel_rfl) (by kernel_rfl) (fun _ _ d _ _ h => by cases d <;> exact h) hS ?_
  clear hq3 hr3 hB3
  generalize w2.drew = w3 at hS ⊢
  have HS := Lib.hid hS; clear hS
  repeat (refine Plan.take (v := ?_) rfl rfl ?_ ?_; rotate_left; (focus (intro W hW; have k0 := hW.1.cell 0 _ rfl; have k1 := hW.2.1.cell 1 _ rfl; have k2 := hW.2.1.cell 2 _ rfl; go_simp; (try with_reducible rfl); done)); (try simp only [Act.put, List.setIfInBounds_toArray, List.set_cons_zero, List.set_cons_succ]))
  have k0 := HS.out.1.cell 0 _ rfl
  have f0 := HS.out.1.frozen 0
  refine Plan.step rfl rfl (fun Kk hK => ?_)
  go_simp
  have hS2 : Both w.heap.size 9 [.string txt] p 74 [.slice A l.length c, .int .i64 (R.2.1 : Int), .int .i64 (R.2.2 : Int)] w w.heap.size (w3.setCell ⟨w.heap.size, 0, none⟩ (.string txt)) := ⟨HS.out.1.put 0 _, HS.out.2.1.away (p := ⟨w.heap.size, 0, none⟩) (Ne.symm HNE.out) _, HS.out.2.2.setCell (Nat.le_refl _) _⟩
  refine hK.out _ _ hS2 ?_
  clear hK Kk k0 f0 HS
  generalize w3.setCell ⟨w.heap.size, 0, none⟩ (.string txt) = w4 at hS2 ⊢
  have HS := Lib.hid hS2; clear hS2
  (try simp only [Act.put, List.setIfInBounds_toArray, List.set_cons_zero, List.set_cons_succ])
  repeat (refine Plan.take (v := ?_) rfl rfl ?_ ?_; rotate_left; (focus (intro W hW; go_simp; (try with_reducible rfl); done)); (try simp only [Act.put, List.setIfInBounds_toArray, List.set_cons_zero, List.set_cons_succ]))
  simp only [Plan]
  have k0 := HS.out.1.cell 0 _ rfl
  go_wp2_with fail
  exact bodyPost_ret (v := textVal R) (by simp [results, Try.results34, go_sem, k0, textVal, HTXT.out]) rfl ⟨rfl, HS.out.2.2⟩
end Go.Proofs.Ytaenlkopjmgniaa
