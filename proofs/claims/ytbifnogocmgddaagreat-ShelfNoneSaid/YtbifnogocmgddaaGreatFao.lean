/- What Text answers. The frame layer's reader: what its calls leave. The frame layer's reader: spans, changes, and so many of them. Whether a message, a transaction, a batch, a state is sound: the program. Whether a batch, a state is sound: the program. The reference's small functions: numbers and changes behind bytes; whether a transaction, a batch, a state is sound. The reference's reader: numbers, texts, changes. The program's Encode, PutTxn, PutBatch, PutState. The program's PutTxn, PutBatch, PutState. -/
import Derived.Test.YtbifnogocmgddaaGreatFan
import Derived.StillTailTactics
namespace Go.Proofs.YtbifnogocmgddaaGreat
open Go.RowKit

set_option maxRecDepth 100000 in
theorem NumW.away {w w' : World} {p q used s : Nat} {t : TypeId} {cs : List Value} {r : Nat × Nat × Nat} {o : Nat} (hs : Whole w s t cs) (h1 : s ≠ p) (h2 : s ≠ q) (h : NumW p q o used r w w') : Whole w' s t cs := by
  rcases h with ⟨_, k, rfl⟩ | ⟨_, k, rfl⟩
  · exact (hs.away (p := ⟨q, o, none⟩) h2 _).away (p := ⟨p, 1, none⟩) h1 _
  · exact (hs.away (p := ⟨p, 1, none⟩) h1 _).away (p := ⟨p, 2, none⟩) h1 _

/-- two blocks stand as they are, and a third one stands -/
def Three (q : Nat) (t : TypeId) (cq : List Value) (p : Nat) (tp : TypeId) (cp : List Value) (s : Nat) (ts : TypeId) (w0 : World) (B : Nat) (W : World) : Prop :=
  Whole W q t cq ∧ Whole W p tp cp ∧ (∃ z, Whole W s ts [z]) ∧ Below B w0 W
set_option maxRecDepth 100000 in
theorem Three.drew {q p s : Nat} {t tp ts : TypeId} {cq cp : List Value} {w0 W : World} {B : Nat} (h : Three q t cq p tp cp s ts w0 B W) : Three q t cq p tp cp s ts w0 B W.drew := ⟨h.1, h.2.1, h.2.2.1, h.2.2.2.drew⟩

set_option maxHeartbeats 8000000 in
set_option maxRecDepth 100000 in
theorem rdtext_any (base p s : Nat) (l : List UInt8) (A : Option Addr) (c : Nat) (w : World) (hw : Rdr w base p (.slice A l.length c) 0 0) (hv : RdB w base (.slice A l.length c) l) (hl : l.length < 4611686018427387904)
    (hs : Whole w s 9 [.string ⟨#[]⟩]) (hsp : s ≠ p) (hbs : base ≤ s) (hbw : base ≤ w.heap.size) :
    Calls Tryz.prog 86 #[.pointer (some ⟨p, 0, none⟩), .pointer (some ⟨s, 0, none⟩)] w fun x w' => x = .returned (.pointer (some ⟨p, 0, none⟩)) ∧
      Rdr w' base p (.slice A l.length c) ((textAns l).2.1 : Int) ((textAns l).2.2 : Int) ∧ Whole w' s 9 [.string (strB (textAns l).1)] ∧ Below base w w' := by
  have hps := hw.1.size
  have hss := hs.size
  have hnum := fun (w1 : World) (h1 : Rdr w1 base p (.slice A l.length c) 0 0) (h2 : Whole w1 w.heap.size 3 [.int .i64 0]) (h3 : Below base w w1) =>
    rdnum_any base p l A c 0 w.heap.size 0 (.int .i64 0) w1 h1 (hv.below h3 (Nat.le_refl _)) (Nat.zero_le _) hl (h2.cell 0 _ rfl) (h2.frozen 0) (by omega) hbw
  have hk := fun (w1 w2 : World) (h1 : Rdr w1 base p (.slice A l.length c) 0 0) (h2 : Whole w1 w.heap.size 3 [.int .i64 0]) (h3 : Whole w1 s 9 [.string ⟨#[]⟩]) (h : NumW p w.heap.size 0 0 (numAns l) w1 w2) => And.intro (NumW.away h3 hsp (by omega) h) (NumW.first h1 h2 (by omega) hbw h)
  simp only [List.drop_zero] at hnum
  have hpq : p ≠ w.heap.size := by omega
  have hsq : s ≠ w.heap.size := by omega
  obtain ⟨g, hg⟩ : ∃ g, g = w.heap.size := ⟨_, rfl⟩
  obtain ⟨R, hR⟩ : ∃ R, R = textAns l := ⟨_, rfl⟩
  rw [← hR]
  have herr := numAns_err l
  have honce := fun (m u : Nat) (h : numAns l = (m, u, 0)) => numAns_once h
  unfold textAns at hR
  generalize numAns l = x at hnum hR herr honce hk
  obtain ⟨n, u, e⟩ := x
  simp only at hR herr hk
  obtain ⟨hwr, hbp⟩ := hw
  have HNUM := Lib.hid hnum
  have HK := Lib.hid hk
  have HWR := Lib.hid hwr
  have HS := Lib.hid hs
  have HV := Lib.hid hv
  have HERR := Lib.hid herr
  have HONCE := Lib.hid honce
  have HR := Lib.hid hR
  have HSP := Lib.hid hsp
  have HPQ := Lib.hid hpq
  have HSQ := Lib.hid hsq
  have HG := Lib.hid hg
  clear hnum hk hwr hs hv herr honce hR hg hsp hpq hsq
  go_enter Tryz.func86, Tryz.ntmps86
  go_wp2_with fail
  refine (HNUM.out _ ⟨HWR.out.alloc _, hbp⟩ (Whole.fresh w 3 [.int .i64 0]) ((Below.refl _ _).alloc hbw _)).mono ?_
  rintro x w2 ⟨rfl, hn⟩
  obtain ⟨hs2, hb2, ⟨hr2, _⟩, hq2⟩ := HK.out _ w2 ⟨HWR.out.alloc _, hbp⟩ (Whole.fresh w 3 [.int .i64 0]) (HS.out.alloc _) hn
  have hB2 : Below base w w2 := ((Below.refl _ _).alloc hbw _).trans hb2
  clear hn hb2
  rw [← HG.out] at hq2
  have HS2 := Lib.hid hs2
  have HB2 := Lib.hid hB2
  have HR2 := Lib.hid hr2
  have HQ2 := Lib.hid hq2
  have k0 := hr2.cell 0 _ rfl
  have k1 := hr2.cell 1 _ rfl
  have k2 := hr2.cell 2 _ rfl
  have q0 := hq2.cell 0 _ rfl
  clear hs2 hB2 hr2 hq2
  rw [HG.out] at q0
  by_cases he : e = 0
  · subst he
    have hR := HR.out
    rw [if_neg (by omega)] at hR
    by_cases hbig : n > 65536
    · rw [if_pos hbig] at hR
      have HRR := Lib.hid hR
      clear hR
      have hb : (65536 : Int) < (n : Int) := by omega
      go_wp2_with fail
      refine (rfail_any base p _ _ _ 6 w2 ⟨HR2.out, hbp⟩).mono ?_
      rintro x w3 ⟨rfl, rfl⟩
      go_wp2_with fail
      go_ret
      exact ⟨rfl, by rw [HRR.out]; exact Rdr.failed 6 ⟨HR2.out, hbp⟩, by rw [HRR.out]; exact (HS2.out.away (p := ⟨p, 1, none⟩) HSP.out _).away (p := ⟨p, 2, none⟩) HSP.out _, (HB2.out.setCell (p := ⟨p, 1, none⟩) hbp _).setCell (p := ⟨p, 2, none⟩) hbp _⟩
    · rw [if_neg hbig] at hR
      have hb : ¬ (65536 : Int) < (n : Int) := by omega
      obtain ⟨hu, hu9, hu1, sx, hsx⟩ := HONCE.out n u rfl
      have hlu : u ≤ l.length := by rw [hu, hsx]; simp
      clear hu hsx
      obtain ⟨A0, c0', e, hcl, hi⟩ := HV.out.at
      injection e with e1 _ e2
      subst e1 e2
      obtain ⟨b, o, hA⟩ : ∃ b o, A = some ⟨b, o, none⟩ := by obtain ⟨b, o, h, _⟩ := hi 0 (by omega); exact ⟨b, o, h⟩
      subst hA
      clear hi
      by_cases hsh : l.length - u < n
      · rw [if_pos hsh] at hR
        have HRR := Lib.hid hR
        clear hR
        have hb2 : (l.length : Int) - (u : Int) < (n : Int) := by omega
        go_wp2_with fail
        go_quiet (fail)
        go_wp2_with fail
        refine (rfail_any base p _ _ _ 3 (w2.drewN nq) ⟨HR2.out, hbp⟩).mono ?_
        rintro x w3 ⟨rfl, rfl⟩
        go_wp2_with fail
        go_ret
        exact ⟨rfl, by rw [HRR.out]; exact Rdr.failed (w := w2.drewN nq) 3 ⟨HR2.out, hbp⟩, by rw [HRR.out]; exact (Whole.away (w := w2.drewN nq) HS2.out (p := ⟨p, 1, none⟩) HSP.out _).away (p := ⟨p, 2, none⟩) HSP.out _, ((Below.drewN' HB2.out nq).setCell (p := ⟨p, 1, none⟩) hbp _).setCell (p := ⟨p, 2, none⟩) hbp _⟩
      · rw [if_neg hsh] at hR
        have HRR := Lib.hid hR
        clear hR
        have hb2 : ¬ (l.length : Int) - (u : Int) < (n : Int) := by omega
        go_wp2_with fail
        go_quiet (fail)
        go_wp2_with fail
        refine wp_region_plan (S := Three w.heap.size 3 [.int .i64 (n : Int)] p 127 [.slice (some ⟨b, o, none⟩) l.length c, .int .i64 (u : Int), .int .i64 0] s 9 w base) [(true, 0), (true, 1), (true, 2), (true, 3), (true, 4), (true, 5), (true, 6), (true, 7), (true, 8), (true, 9), (true, 10), (true, 11), (true, 12), (true, 13), (true, 14), (true, 15), (true, 16), (true, 17), (false, 18)] (by kernel_rfl) (by kernel_rfl) (fun _ _ d _ _ h => by cases d <;> exact h) ⟨by rw [← HG.out]; exact HQ2.out, HR2.out, ⟨_, HS2.out⟩, (Below.drewN' HB2.out nq).drew⟩ ?_
        have hS : Three w.heap.size 3 [.int .i64 (n : Int)] p 127 [.slice (some ⟨b, o, none⟩) l.length c, .int .i64 (u : Int), .int .i64 0] s 9 w base (w2.drewN nq).drew := ⟨by rw [← HG.out]; exact HQ2.out, HR2.out, ⟨_, HS2.out⟩, (Below.drewN' HB2.out nq).drew⟩
        clear k0 k1 k2 q0
        have hs3 : Whole (w2.drewN nq).drew s 9 [.string ⟨#[]⟩] := HS2.out
        generalize (w2.drewN nq).drew = w3 at hS hs3 ⊢
        have HZ := Lib.hid hs3; clear hs3
        have HS3 := Lib.hid hS; clear hS
        have hw : IntKind.i64.wrap ((u : Int) + (n : Int)) = (u : Int) + n := by rw [IntKind.wrap_i64]; omega
        have hn0 : (0 : Int) ≤ (u : Int) + n := by omega
        have hnt : ((u : Int) + n).toNat = u + n := by omega
        have hcn : (u : Int) + n ≤ (c : Int) := by omega
        have hHV := HV.out
        have hcv : ∀ W, Below base w W → (convert 51 9 (.slice (if c = u then some ⟨b, o, none⟩ else some ⟨b, o + u, none⟩) n (c - u))).run Tryz.prog W = .ok (.string (strB ((l.drop u).take n))) W := fun W hW => by
          refine run_convB (RdB.window (hHV.below hW (Nat.le_refl _)) u n (by omega) (c - u) (by omega) _ fun h => ?_)
          rw [if_neg (by omega)]
        have HCV := Lib.hid hcv; clear hcv hHV
        by_cases hcu : c = u
        · have HCV2 := HCV.out
          rw [if_pos hcu] at HCV2
          have HCV3 := Lib.hid HCV2; clear HCV2 HCV
          have hlu2 : l.length = u := by omega
          have hn00 : n = 0 := by omega
          subst hn00
          subst hcu
          subst hlu2
          have hw0 : IntKind.i64.wrap (l.length : Int) = l.length := by rw [IntKind.wrap_i64]; omega
          have HCV5 := HCV3.out
          rw [Nat.sub_self, List.take_zero] at HCV5
          clear hw hn0 hnt hcn HCV3
          have HCV3 := Lib.hid HCV5; clear HCV5
          repeat (refine Plan.take (v := ?_) rfl rfl ?_ ?_; rotate_left; (focus (intro W hW; have k0 := hW.1.cell 0 _ rfl; have k1 := hW.2.1.cell 0 _ rfl; have k2 := hW.2.1.cell 1 _ rfl; have k3 := HCV3.out W hW.2.2.2; go_simp; (try with_reducible rfl); done)); (try simp only [Act.put, List.setIfInBounds_toArray, List.set_cons_zero, List.set_cons_succ]))
          have z0 := HZ.out.cell 0 _ rfl
          have y0 := HZ.out.frozen 0
          refine Plan.step rfl rfl (fun Kk hK => ?_)
          go_simp
          obtain ⟨txt, htxt⟩ : ∃ txt, txt = strB [] := ⟨_, rfl⟩
          rw [← htxt]
          have hS4 : Three w.heap.size 3 [.int .i64 ((0 : Nat) : Int)] p 127 [.slice (some ⟨b, o, none⟩) l.length l.length, .int .i64 (l.length : Int), .int .i64 0] s 9 w base (w3.setCell ⟨s, 0, none⟩ (.string txt)) := ⟨HS3.out.1.away (p := ⟨s, 0, none⟩) (Ne.symm HSQ.out) _, HS3.out.2.1.away (p := ⟨s, 0, none⟩) (Ne.symm HSP.out) _, ⟨_, HZ.out.put 0 _⟩, HS3.out.2.2.2.setCell (p := ⟨s, 0, none⟩) hbs _⟩
          have hs4 : Whole (w3.setCell ⟨s, 0, none⟩ (.string txt)) s 9 [.string txt] := HZ.out.put 0 _
          refine hK.out _ _ hS4 ?_
          clear hK Kk z0 y0 HS3 HZ HCV3
          generalize w3.setCell ⟨s, 0, none⟩ (.string txt) = w4 at hS4 hs4 ⊢
          have HS4 := Lib.hid hS4; clear hS4
          have HZ4 := Lib.hid hs4; clear hs4
          simp only [Plan]
          go_wp2_with fail
          have p1 := HS4.out.2.1.cell 1 _ rfl
          have p1f := HS4.out.2.1.frozen 1
          have q0 := HS4.out.1.cell 0 _ rfl
          go_still_tail 8, (by kernel_rfl)
          have hz5 : Whole w4.drew s 9 [.string txt] := HZ4.out
          have hs5 := HS4.out.drew
          change wpList _ _ _ _ _ w4.drew
          clear p1 p1f q0 HS4 HZ4
          generalize w4.drew = w5 at hz5 hs5 ⊢
          have p1 := hs5.2.1.cell 1 _ rfl
          have p1f := hs5.2.1.frozen 1
          have HS5 := Lib.hid hs5
          have HZ5 := Lib.hid hz5
          have HTXT := Lib.hid htxt
          clear hs5 hz5 htxt
          go_wp2_with fail
          go_ret
          exact ⟨rfl, by rw [HRR.out]; exact ⟨HS5.out.2.1.put 1 _, hbp⟩, by rw [HRR.out]; simp only [List.take_zero]; rw [← HTXT.out]; exact HZ5.out.away (p := ⟨p, 1, none⟩) HSP.out _, HS5.out.2.2.2.setCell (p := ⟨p, 1, none⟩) hbp _⟩
        · have HCV2 := HCV.out
          rw [if_neg hcu] at HCV2
          have HCV3 := Lib.hid HCV2; clear HCV2 HCV
          repeat (refine Plan.take (v := ?_) rfl rfl ?_ ?_; rotate_left; (focus (intro W hW; have k0 := hW.1.cell 0 _ rfl; have k1 := hW.2.1.cell 0 _ rfl; have k2 := hW.2.1.cell 1 _ rfl; have k3 := HCV3.out W hW.2.2.2; go_simp; (try with_reducible rfl); done)); (try simp only [Act.put, List.setIfInBounds_toArray, List.set_cons_zero, List.set_cons_succ]))
          have z0 := HZ.out.cell 0 _ rfl
          have y0 := HZ.out.frozen 0
          refine Plan.step rfl rfl (fun Kk hK => ?_)
          go_simp
          obtain ⟨txt, htxt⟩ : ∃ txt, txt = strB ((l.drop u).take n) := ⟨_, rfl⟩
          rw [← htxt]
          have hS4 : Three w.heap.size 3 [.int .i64 (n : Int)] p 127 [.slice (some ⟨b, o, none⟩) l.length c, .int .i64 (u : Int), .int .i64 0] s 9 w base (w3.setCell ⟨s, 0, none⟩ (.string txt)) := ⟨HS3.out.1.away (p := ⟨s, 0, none⟩) (Ne.symm HSQ.out) _, HS3.out.2.1.away (p := ⟨s, 0, none⟩) (Ne.symm HSP.out) _, ⟨_, HZ.out.put 0 _⟩, HS3.out.2.2.2.setCell (p := ⟨s, 0, none⟩) hbs _⟩
          have hs4 : Whole (w3.setCell ⟨s, 0, none⟩ (.string txt)) s 9 [.string txt] := HZ.out.put 0 _
          refine hK.out _ _ hS4 ?_
          clear hK Kk z0 y0 HS3 HZ HCV3
          generalize w3.setCell ⟨s, 0, none⟩ (.string txt) = w4 at hS4 hs4 ⊢
          have HS4 := Lib.hid hS4; clear hS4
          have HZ4 := Lib.hid hs4; clear hs4
          simp only [Plan]
          go_wp2_with fail
          have p1 := HS4.out.2.1.cell 1 _ rfl
          have p1f := HS4.out.2.1.frozen 1
          have q0 := HS4.out.1.cell 0 _ rfl
          go_still_tail 8, (by kernel_rfl)
          have hz5 : Whole w4.drew s 9 [.string txt] := HZ4.out
          have hs5 := HS4.out.drew
          change wpList _ _ _ _ _ w4.drew
          clear p1 p1f q0 HS4 HZ4
          generalize w4.drew = w5 at hz5 hs5 ⊢
          have p1 := hs5.2.1.cell 1 _ rfl
          have p1f := hs5.2.1.frozen 1
          have HS5 := Lib.hid hs5
          have HZ5 := Lib.hid hz5
          have HTXT := Lib.hid htxt
          clear hs5 hz5 htxt
          go_wp2_with fail
          go_ret
          exact ⟨rfl, by rw [HRR.out]; exact ⟨HS5.out.2.1.put 1 _, hbp⟩, by rw [HRR.out]; simp only; rw [← HTXT.out]; exact HZ5.out.away (p := ⟨p, 1, none⟩) HSP.out _, HS5.out.2.2.2.setCell (p := ⟨p, 1, none⟩) hbp _⟩
  · rcases HERR.out with h | h | h
    · exact absurd h he
    all_goals
      simp only [Prod.mk.injEq] at h
      obtain ⟨rfl, rfl, rfl⟩ := h
      have hR := HR.out
      rw [if_pos (by decide)] at hR
      have HRR := Lib.hid hR
      clear hR
      go_wp2_with fail
      go_ret
      exact ⟨rfl, by rw [HRR.out]; exact ⟨HR2.out, hbp⟩, by rw [HRR.out]; exact HS2.out, HB2.out⟩

set_option maxHeartbeats 4000000 in
set_option maxRecDepth 100000 in
theorem text_any (l : List UInt8) (v : Value) (w : World) (hv : RdB w w.heap.size v l) (hl : l.length < 4611686018427387904) :
    Calls Tryz.prog 64 #[v] w fun e w' => e = .returned (textVal (textAns l)) ∧ Below w.heap.size w w' := by
  obtain ⟨A, c, rfl, hc, _⟩ := hv.at
  have hrd := fun (w1 : World) (p : Nat) (h1 : Rdr w1 w.heap.size p (.slice A l.length c) 0 0) (h2 : Whole w1 w.heap.size 9 [.string ⟨#[]⟩]) (h3 : w.heap.size ≠ p) (h4 : Below w.heap.size w w1) (h5 : w.heap.size ≤ w1.heap.size) =>
    rdtext_any w.heap.size p w.heap.size l A c w1 h1 (hv.below h4 (Nat.le_refl _)) hl h2 h3 (Nat.le_refl _) h5
  obtain ⟨R, hR⟩ : ∃ R, R = textAns l := ⟨_, rfl⟩
  rw [← hR] at hrd ⊢
  have HRD := Lib.hid hrd
  clear hrd hR hv
  go_enter Tryz.func64, Tryz.ntmps64
  go_wp2_with fail
  refine (from_any _ _ A l.length c rfl).mono ?_
  rintro e w1 ⟨p, rfl, hr1, hb1, hp⟩
  have hw1 : Whole w1 w.heap.size 9 [.string ⟨#[]⟩] := (Whole.fresh w 9 [.string ⟨#[]⟩]).below hb1 (by simp)
  have hne : w.heap.size ≠ p := by rw [hp]; simp
  have hr2 : Rdr w1 w.heap.size p (.slice A l.length c) 0 0 := ⟨hr1.1, by rw [hp]; simp⟩
  have hb2 : Below w.heap.size w w1 := ((Below.refl _ _).alloc (Nat.le_refl _) _).trans (hb1.mono (by simp))
  have HC := Lib.hid (HRD.out w1 p hr2 hw1 hne hb2 hb2.size)
  have HB2 := Lib.hid hb2
  have HP := Lib.hid hp
  have HNE := Lib.hid hne
  clear hw1 hr1 hr2 hb1 hb2 hp hne
  go_wp2_with fail
  refine HC.out.mono ?_
  rintro e w2 ⟨rfl, hr3, hq3, hb3⟩
  have hB3 := HB2.out.trans hb3
  clear hb3
  go_wp2_with fail
  obtain ⟨txt, htxt⟩ : ∃ txt, txt = strB R.1 := ⟨_, rfl⟩
  rw [← htxt] at hq3
  have HTXT := Lib.hid htxt
  clear htxt
  have hS : Both w.heap.size 9 [.string txt] p 127 [.slice A l.length c, .int .i64 (R.2.1 : Int), .int .i64 (R.2.2 : Int)] w w.heap.size w2.drew := ⟨hq3, hr3.1, hB3.drew⟩
  refine wp_region_plan (S := Both w.heap.size 9 [.string txt] p 127 [.slice A l.length c, .int .i64 (R.2.1 : Int), .int .i64 (R.2.2 : Int)] w w.heap.size) [(true, 0), (true, 1), (true, 2), (true, 3), (true, 4), (true, 5), (true, 6), (true, 7), (true, 8), (false, 9), (true, 10), (true, 11)] (by kernel_rfl) (by kernel_rfl) (fun _ _ d _ _ h => by cases d <;> exact h) hS ?_
  clear hq3 hr3 hB3
  generalize w2.drew = w3 at hS ⊢
  have HS := Lib.hid hS; clear hS
  repeat (refine Plan.take (v := ?_) rfl rfl ?_ ?_; rotate_left; (focus (intro W hW; have k0 := hW.1.cell 0 _ rfl; have k1 := hW.2.1.cell 1 _ rfl; have k2 := hW.2.1.cell 2 _ rfl; go_simp; (try with_reducible rfl); done)); (try simp only [Act.put, List.setIfInBounds_toArray, List.set_cons_zero, List.set_cons_succ]))
  have k0 := HS.out.1.cell 0 _ rfl
  have f0 := HS.out.1.frozen 0
  refine Plan.step rfl rfl (fun Kk hK => ?_)
  go_simp
  have hS2 : Both w.heap.size 9 [.string txt] p 127 [.slice A l.length c, .int .i64 (R.2.1 : Int), .int .i64 (R.2.2 : Int)] w w.heap.size (w3.setCell ⟨w.heap.size, 0, none⟩ (.string txt)) := ⟨HS.out.1.put 0 _, HS.out.2.1.away (p := ⟨w.heap.size, 0, none⟩) (Ne.symm HNE.out) _, HS.out.2.2.setCell (Nat.le_refl _) _⟩
  refine hK.out _ _ hS2 ?_
  clear hK Kk k0 f0 HS
  generalize w3.setCell ⟨w.heap.size, 0, none⟩ (.string txt) = w4 at hS2 ⊢
  have HS := Lib.hid hS2; clear hS2
  (try simp only [Act.put, List.setIfInBounds_toArray, List.set_cons_zero, List.set_cons_succ])
  repeat (refine Plan.take (v := ?_) rfl rfl ?_ ?_; rotate_left; (focus (intro W hW; go_simp; (try with_reducible rfl); done)); (try simp only [Act.put, List.setIfInBounds_toArray, List.set_cons_zero, List.set_cons_succ]))
  simp only [Plan]
  have k0 := HS.out.1.cell 0 _ rfl
  go_wp2_with fail
  exact bodyPost_ret (v := textVal R) (by simp [results, Tryz.results64, go_sem, k0, textVal, HTXT.out]) rfl ⟨rfl, HS.out.2.2⟩
end Go.Proofs.YtbifnogocmgddaaGreat
namespace Go.Proofs.YtbifnogocmgddaaGreat
open Go.RowKit

/-- of what stood only block p has turned -/
def Only (p : Nat) (w w' : World) : Prop := w.grownBy w' (some p)
theorem Only.refl (p : Nat) (w : World) : Only p w w := World.grownBy.refl _ _
theorem Only.trans {p : Nat} {a b c : World} (h : Only p a b) (k : Only p b c) : Only p a c := World.grownBy.trans h k
theorem Only.size {p : Nat} {a b : World} (h : Only p a b) : a.heap.size ≤ b.heap.size := World.grownBy.size h
theorem Only.put {p : Nat} {a w : World} (h : Only p a w) (i : Nat) (u : Value) : Only p a (w.setCell ⟨p, i, none⟩ u) :=
  World.grownBy.trans h ⟨rfl, rfl, rfl, by simp [World.setCell], fun j _ hne => Below.heap_setCell w ⟨p, i, none⟩ u j (fun e => hne (by rw [e]))⟩
theorem Only.fresh {p : Nat} {a w : World} (h : Only p a w) {g : Nat} (hg : a.heap.size ≤ g) (i : Nat) (u : Value) : Only p a (w.setCell ⟨g, i, none⟩ u) :=
  ⟨h.os, h.tape, h.output, by have := h.size; simpa [World.setCell] using this, fun j hj hne => (Below.heap_setCell w ⟨g, i, none⟩ u j (by show j ≠ g; omega)).trans (h.block j hj hne)⟩
theorem Only.below {p : Nat} {a w w' : World} (h : Only p a w) (hb : Below w.heap.size w w') : Only p a w' :=
  World.grownBy.trans h ⟨hb.os, hb.tape, hb.output, hb.size, fun j hj _ => hb.block j hj⟩
theorem Only.alloc {p : Nat} {a w : World} (h : Only p a w) (o : Obj) : Only p a (w.alloc o) := h.below ((Below.refl _ _).alloc (Nat.le_refl _) o)
theorem Only.drew {p : Nat} {a w : World} (h : Only p a w) : Only p a w.drew := ⟨h.os, h.tape, h.output, h.size, h.block⟩
theorem Only.low {p B : Nat} {a w : World} (h : Only p a w) (hB : B ≤ p) (hs : B ≤ a.heap.size) : Below B a w := (Below.refl _ _).grown (row := some p) h hs fun k hk => by injection hk with hk; omega

theorem numAns_used {l : List UInt8} (h : (numAns l).2.2 = 0) : 1 ≤ (numAns l).2.1 ∧ (numAns l).2.1 ≤ l.length := by
  obtain ⟨m, u, e⟩ : ∃ m u, numAns l = (m, u, 0) := ⟨_, _, Prod.ext rfl (Prod.ext rfl h)⟩
  obtain ⟨h1, h2, h3, s, h4⟩ := numAns_once e
  rw [e]
  simp only
  refine ⟨h3, ?_⟩
  rw [h4, List.length_append]; omega
theorem textAns_used {l : List UInt8} (h : (textAns l).2.2 = 0) : 1 ≤ (textAns l).2.1 ∧ (textAns l).2.1 ≤ l.length := by
  by_cases h1 : (numAns l).2.2 = 0
  · have h2 := numAns_used h1
    unfold textAns at h ⊢
    rw [if_neg (by simpa using h1)] at h ⊢
    by_cases h3 : (numAns l).1 > 65536
    · rw [if_pos h3] at h; simp at h
    · rw [if_neg h3] at h ⊢
      by_cases h4 : l.length - (numAns l).2.1 < (numAns l).1
      · rw [if_pos h4] at h; simp at h
      · rw [if_neg h4]; simp only; omega
  · unfold textAns at h
    rw [if_pos h1] at h
    exact absurd h h1
theorem textAns_bad {l : List UInt8} (h : (textAns l).2.2 ≠ 0) : (textAns l).1 = [] ∧ (textAns l).2.1 = 0 := by
  unfold textAns at h ⊢
  split
  · exact ⟨rfl, rfl⟩
  · split
    · exact ⟨rfl, rfl⟩
    · split
      · exact ⟨rfl, rfl⟩
      · rename_i h1 h2 h3
        rw [if_neg h1, if_neg h2, if_neg h3] at h
        exact absurd rfl h
theorem rdN_bad {S : Rest} (h : (numAns (S.getD [])).2.2 ≠ 0) : rdN S = (0, none) := by
  cases S with
  | none => rfl
  | some l => rw [rdN, if_neg (by simpa using h)]
theorem rdN_good {S : Rest} (h : (numAns (S.getD [])).2.2 = 0) : ∃ l, S = some l := by
  cases S with
  | none => exact absurd h (by decide)
  | some l => exact ⟨l, rfl⟩
theorem rdT_bad {S : Rest} (h : (textAns (S.getD [])).2.2 ≠ 0) : rdT S = ([], none) := by
  cases S with
  | none => rfl
  | some l => rw [rdT, if_neg (by simpa using h)]
theorem rdT_good {S : Rest} (h : (textAns (S.getD [])).2.2 = 0) : ∃ l, S = some l := by
  cases S with
  | none => exact absurd h (by decide)
  | some l => exact ⟨l, rfl⟩

end Go.Proofs.YtbifnogocmgddaaGreat
namespace Go.Proofs.YtbifnogocmgddaaGreat
open Go.RowKit
attribute [local go_sem] less_eq same_eq le_eq ge_eq gt_eq

section
variable {α : Type} {enc : α → List Value} {k : Nat}
/-- append of what another slice holds; what grew is told -/
theorem wpList_addG {P : Program} {ops : Array Oper} {rest : List Oper} {o : Oper} {a : Act} {Q : Exit → Act → World → Prop} {w : World} (hgd : Region.wanted o (yielded ops a.tmps) = true) (t e : TypeId) (bytes : Nat) (i0 : TypeInfo) (z : Value) (ht : P.underlying t = some (.slice e)) (hi : P.info? e = some i0) (hz0 : i0.zero = some z) (hz1 : i0.size = k) (hz2 : i0.bytes = bytes) (hzs : z.cells.size = k) (hk0 : 0 < k)
    (hk : ∀ x, (enc x).length = k) (hone : ∀ x, ∀ u ∈ enc x, u.oneCell' = true) (s x : Operand)
    (ho : o.op = .call { callee := .builtin .append, args := #[s, x], argTypes := #[t, t] })
    (base : Nat) (v : Value) (l : List α) (hs : a.eval s = v) (hown : Own enc k e w base v l) (B : Nat) (v2 : Value) (p : List α) (hx : a.eval x = v2) (hp : Rd enc k w B v2 p)
    (h63 : l.length + p.length ≤ maxLen) (hbytes : ((l.length + p.length) + (l.length + p.length) / 4 + 192) * bytes ≤ 281474976710656) (hbase : base ≤ w.heap.size)
    (h : ∀ A' c' w', Hid (Own enc k e w' base (.slice A' (l ++ p).length c') (l ++ p)) → Hid (w.grownBy w' v.ownBlock) → wpList P ops Q rest (a.put o.dst (.slice A' (l ++ p).length c')) w') : wpList P ops Q (o :: rest) a w := by
  refine BigFrame.wpList_want hgd fun K hK => ?_
  refine wp_addAny t e bytes i0 z ht hi hz0 hz1 hz2 hzs hk0 hk hone s x ho base v l hs hown B v2 p hx hp h63 hbytes hbase fun A' c' w' h1 h2 => ?_
  exact hK _ _ (h A' c' w' (Lib.hid h1) (Lib.hid h2))
end

/-- what was owned from B on is so behind a reading whose reader lies below B -/
theorem Own.only {α : Type} {enc : α → List Value} {k : Nat} {e : TypeId} {w w' : World} {B p : Nat} {v : Value} {l : List α} (h : Own enc k e w B v l) (ho : Only p w w') (hp : p < B) : Own enc k e w' B v l := by
  refine Own.kept (row := some p) h ho ?_
  cases hb : v.ownBlock with
  | none => exact .inl rfl
  | some i => exact .inr fun e => by have := (h.low hb).1; injection e with e; omega

end Go.Proofs.YtbifnogocmgddaaGreat
namespace Go.Proofs.YtbifnogocmgddaaGreat
open Go.RowKit
attribute [local go_sem] less_eq same_eq le_eq ge_eq gt_eq

/-- numbers laid as a literal -/
theorem RdI.lit (W : World) (l : List Int) : RdI (W.alloc (.cells (l.map (.int .i64)).toArray 3)) (W.heap.size + 1) (.slice (some ⟨W.heap.size, 0, none⟩) l.length l.length) l := by
  have h := Whole.rd (enc := encI) (k := 1) encI_len (l := l) (Whole.fresh W 3 (flatG encI l))
  have e : flatG encI l = l.map (.int .i64) := by
    induction l with
    | nil => rfl
    | cons a r ih => rw [show a :: r = [a] ++ r from rfl, flatG_append, List.map_append, ih (Whole.rd encI_len (Whole.fresh W 3 _))]; rfl
  rw [e] at h
  exact h

set_option maxHeartbeats 1000000 in
set_option maxRecDepth 100000 in
theorem from0_any (l : List Int) (v : Value) (w : World) (B : Nat) (hv : RdI w B v l) (hl : l.length < 4611686018427387904) :
    Calls Tryz.prog 92 #[v] w fun e w' => e = .returned (.bool (decide (∀ n ∈ l, 0 ≤ n))) ∧ w' = w := by
  obtain ⟨A, c, rfl, hc, hi⟩ := hv.at
  obtain ⟨D, hD⟩ : ∃ D, D = decide (∀ n ∈ l, 0 ≤ n) := ⟨_, rfl⟩
  rw [← hD]
  have HD := Lib.hid hD; clear hD
  have HI := Lib.hid hi; clear hi
  clear hv
  go_enter Tryz.func92, Tryz.ntmps92
  go_wp2_with fail
  go_loop [7] (fun iv => ∃ i : Nat, i ≤ l.length ∧ iv = .int .i64 i ∧ Hid (∀ n ∈ l.take i, 0 ≤ n)) (fun iv => l.length - (intOf iv).toNat)
  case atStart => exact ⟨0, Nat.zero_le _, rfl, Lib.hid (by simp)⟩
  case round =>
    obtain ⟨i, hil, rfl, HALL⟩ := hrel
    by_cases hlt : i < l.length
    · obtain ⟨b, o, rfl, hbB, h1⟩ := HI.out i hlt
      have hyes : 0 ≤ l[i] → ∀ n ∈ l.take (i + 1), 0 ≤ n := fun h n hn => by
        rw [List.take_add_one, List.getElem?_eq_getElem hlt, List.mem_append] at hn
        rcases hn with hn | hn
        · exact HALL.out n hn
        · simp only [Option.toList_some, List.mem_singleton] at hn; rw [hn]; exact h
      have hno : ¬ (0 ≤ l[i]) → D = false := fun h => by rw [HD.out]; exact decide_eq_false fun hall => h (hall _ (List.getElem_mem hlt))
      generalize l[i] = z at h1 hyes hno
      have HY := Lib.hid hyes; clear hyes
      have HN := Lib.hid hno; clear hno
      by_cases hz : z < 0
      · go_wp2_with fail
        go_ret
        exact ⟨by rw [HN.out (by omega)]; rfl, rfl⟩
      · go_wp2_with fail
        go_round
        case rel => exact ⟨i + 1, by omega, by go_num, Lib.hid (HY.out (by omega))⟩
        case measure => simp [intOf]; omega
    · have hd : D = true := by
        rw [HD.out]
        have := HALL.out
        rw [List.take_of_length_le (by omega)] at this
        exact decide_eq_true this
      have HD2 := Lib.hid hd; clear hd
      go_wp2_with fail
      go_ret
      exact ⟨by rw [HD2.out]; rfl, rfl⟩

/-- a message as a value -/
def mval (m : Msg) (v : Value) : Value := .agg #[.int .i64 m.kind, .int .i64 m.frm, .int .i64 m.to, .int .i64 m.epoch, .int .i64 m.a, .int .i64 m.b, .int .i64 m.c, v]

theorem allAns_mem_zero {l : List Chg} (h : ∀ c ∈ l, checkAns c = 0) : allAns l = 0 := by
  induction l with
  | nil => rfl
  | cons x r ih => rw [allAns, if_pos (h x (by simp))]; exact ih fun c hc => h c (by simp [hc])

set_option maxHeartbeats 2000000 in
set_option maxRecDepth 100000 in
theorem soundCh_any (l : List Chg) (hs : ∀ c ∈ l, smallC c) (most : Nat) (hm : most ≤ 4096) (v : Value) (w : World) (hv : RdC w w.heap.size v l) (hl : l.length < 4611686018427387904) :
    Calls Tryz.prog 93 #[v, .int .i64 (most : Int)] w fun e w' => e = .returned (.bool (decide (l.length ≤ most ∧ allAns l = 0))) ∧ Below w.heap.size w w' := by
  obtain ⟨A, c, rfl, hc, hi⟩ := hv.at
  obtain ⟨D, hD⟩ : ∃ D, D = decide (l.length ≤ most ∧ allAns l = 0) := ⟨_, rfl⟩
  rw [← hD]
  have HD := Lib.hid hD; clear hD
  have HI := Lib.hid hi; clear hi
  have HS := Lib.hid hs; clear hs
  clear hv
  by_cases hbig : (most : Int) < (l.length : Int)
  · have hd : D = false := by rw [HD.out]; exact decide_eq_false fun h => by have := h.1; omega
    subst hd
    clear HD
    go_enter Tryz.func93, Tryz.ntmps93
    go_wp2_with fail
    go_ret
    exact ⟨rfl, Below.refl _ _⟩
  obtain ⟨g, hg⟩ : ∃ g, g = w.heap.size := ⟨_, rfl⟩
  rw [← hg] at HI ⊢
  have HG := Lib.hid hg; clear hg
  go_enter Tryz.func93, Tryz.ntmps93
  go_wp2_with fail
  go_loopw [13] (fun iv wr => ∃ i : Nat, i ≤ l.length ∧ iv = .int .i64 i ∧ Below g w wr ∧ g ≤ wr.heap.size ∧ Hid (∀ s ∈ l.take i, checkAns s = 0)) (fun iv _ => l.length - (intOf iv).toNat)
  case atStart => exact ⟨0, Nat.zero_le _, rfl, Below.refl _ _, by rw [HG.out]; exact Nat.le_refl _, Lib.hid (by simp)⟩
  case round =>
    obtain ⟨i, hil, rfl, hbw, hgs, HALL⟩ := hrel
    have HB := Lib.hid hbw; clear hbw
    by_cases hlt : i < l.length
    · obtain ⟨b, o, rfl, hbB, k0, k1, k2⟩ := HI.out i hlt
      rw [← HB.out.cell (p := ⟨b, _, none⟩) hbB] at k0 k1 k2
      have hsm := HS.out l[i] (List.getElem_mem hlt)
      have hyes : checkAns l[i] = 0 → ∀ s ∈ l.take (i + 1), checkAns s = 0 := fun h n hn => by
        rw [List.take_add_one, List.getElem?_eq_getElem hlt, List.mem_append] at hn
        rcases hn with hn | hn
        · exact HALL.out n hn
        · simp only [Option.toList_some, List.mem_singleton] at hn; rw [hn]; exact h
      have hno : ¬ checkAns l[i] = 0 → D = false := fun h => by rw [HD.out]; exact decide_eq_false fun hall => h (allAns_all hall.2 _ (List.getElem_mem hlt))
      generalize l[i] = z at k0 k1 k2 hyes hno hsm
      have hck := fun W => pcheck_any z W (by have := hsm.1; omega) (by have := hsm.2; omega)
      unfold cval at hck
      generalize checkAns z = q at hck hyes hno
      obtain ⟨kz, x, y⟩ := z
      simp only at k0 k1 k2 hck
      have HY := Lib.hid hyes; clear hyes
      have HN := Lib.hid hno; clear hno
      have HK := Lib.hid hck; clear hck hsm
      have HB2 := Lib.hid (show Below g w (wr.alloc (.cells #[.int .i64 kz, .string x, .string y] 67)) from HB.out.alloc hgs _)
      go_wp2_with fail
      refine (HK.out _).mono ?_
      rintro e w2 ⟨rfl, hb2⟩
      have hgs2 : g ≤ w2.heap.size := by have := hb2.size; simp at this; omega
      have HB3 := Lib.hid (show Below g w w2 from HB2.out.trans (hb2.mono (by simp; omega)))
      clear hb2 k0 k1 k2
      by_cases hq : q = 0
      · subst hq
        have hok := HY.out rfl
        have HOK := Lib.hid hok; clear hok
        go_wp2_with fail
        go_roundw
        case rel => exact ⟨i + 1, by omega, by go_num, HB3.out, hgs2, Lib.hid HOK.out⟩
        case measure => simp [intOf]; omega
      · go_wp2_with fail
        go_ret
        exact ⟨by rw [HN.out hq]; rfl, HB3.out⟩
    · have hd : D = true := by
        rw [HD.out]
        have := HALL.out
        rw [List.take_of_length_le (by omega)] at this
        exact decide_eq_true ⟨by omega, allAns_mem_zero this⟩
      have HD2 := Lib.hid hd; clear hd
      go_wp2_with fail
      go_ret
      exact ⟨by rw [HD2.out]; rfl, HB.out⟩

/-- a transaction, a batch, a state as values -/
def tval (t : Txn) (v1 v2 : Value) : Value := .agg #[.int .i64 t.read, v1, v2]
def bval (x : Bat) (v : Value) : Value := .agg #[.int .i64 x.prev, .int .i64 x.version, .int .i64 x.known, v]
def sval (x : Sta) (v : Value) : Value := .agg #[.int .i64 x.gen, .int .i64 x.epoch, .int .i64 x.recd, v]
/-- lengths that a walk needs -/
def fitT (t : Txn) : Prop := t.reads.length < 4611686018427387904 ∧ (∀ s ∈ t.reads, s.1.size < 4611686018427387904 ∧ s.2.size < 4611686018427387904) ∧ t.chgs.length < 4611686018427387904 ∧ ∀ c ∈ t.chgs, smallC c

end Go.Proofs.YtbifnogocmgddaaGreat
namespace Go.Proofs.YtbifnogocmgddaaGreat
open Go.RowKit

/-- a cell of a block that was made and stands -/
theorem box_cell {w W : World} {cs : List Value} {t : TypeId} (h : Below (w.heap.size + 1) (w.alloc (.cells cs.toArray t)) W) (i : Nat) (v : Value) (hv : cs[i]? = some v) : W.cell? ⟨w.heap.size, i, none⟩ = some v :=
  (h.cell (p := ⟨w.heap.size, i, none⟩) (Nat.lt_succ_self _)).trans ((Whole.fresh w t cs).cell i v hv)

def fitB (x : Bat) : Prop := x.chgs.length < 4611686018427387904 ∧ ∀ c ∈ x.chgs, smallC c

set_option maxHeartbeats 2000000 in
set_option maxRecDepth 100000 in
theorem soundB_any (x : Bat) (hft : fitB x) (v : Value) (w : World) (hv : RdC w w.heap.size v x.chgs) :
    Calls Tryz.prog 71 #[bval x v] w fun e w' => e = .returned (.bool (decide (soundB x))) ∧ Below w.heap.size w w' := by
  obtain ⟨h1, h2⟩ := hft
  obtain ⟨a, b, c, chgs⟩ := x
  obtain ⟨R, hR⟩ : ∃ R, R = decide (soundB ⟨a, b, c, chgs⟩) := ⟨_, rfl⟩
  rw [← hR]
  unfold soundB at hR
  unfold bval
  simp only at hR h1 h2 hv ⊢
  have hF := fun W B h => from0_any [a, b, c] (.slice (some ⟨w.heap.size + 1, 0, none⟩) 3 3) W B h (by simp)
  have hi1 := RdI.lit (w.alloc (.cells #[.int .i64 a, .int .i64 b, .int .i64 c, v] 35)) [a, b, c]
  simp only [World.size_alloc, List.map_cons, List.map_nil, List.length_cons, List.length_nil] at hi1
  have hb2 : Below w.heap.size w ((w.alloc (.cells #[.int .i64 a, .int .i64 b, .int .i64 c, v] 35)).alloc (.cells #[.int .i64 a, .int .i64 b, .int .i64 c] 3)) := ((Below.refl _ _).alloc (Nat.le_refl _) _).alloc (by simp) _
  have hA := soundCh_any chgs h2 4096 (by omega) v _ (hv.next hb2) h1
  obtain ⟨D1, hD1⟩ : ∃ D1, D1 = decide (∀ n ∈ [a, b, c], 0 ≤ n) := ⟨_, rfl⟩
  obtain ⟨D2, hD2⟩ : ∃ D2, D2 = decide (chgs.length ≤ 4096 ∧ allAns chgs = 0) := ⟨_, rfl⟩
  rw [← hD1] at hF
  rw [← hD2] at hA
  have e1 : (∀ n ∈ [a, b, c], 0 ≤ n) ↔ 0 ≤ a ∧ 0 ≤ b ∧ 0 ≤ c := by simp
  have hRR : R = (D1 && D2) := by
    rw [hR, hD1, hD2, ← Bool.decide_and]
    exact decide_eq_decide.2 ⟨fun h => ⟨e1.2 h.1, h.2⟩, fun h => ⟨e1.1 h.1, h.2⟩⟩
  have HF := Lib.hid (hF _ _ hi1); clear hF hi1
  have HA := Lib.hid hA; clear hA
  have HB2 := Lib.hid hb2; clear hb2
  obtain ⟨A1, c1, rfl, _, _⟩ := hv.at
  clear hR hD1 hD2 e1 hv h2
  subst hRR
  go_enter Tryz.func71, Tryz.ntmps71
  go_wp2_with fail
  refine HF.out.mono ?_
  rintro e w1 ⟨rfl, rfl⟩
  cases D1 with
  | false =>
    go_wp2_with fail
    go_ret
    exact ⟨rfl, HB2.out⟩
  | true =>
    go_wp2_with fail
    refine HA.out.mono ?_
    rintro e w3 ⟨rfl, hb3⟩
    have HB3 := Lib.hid (show Below w.heap.size w w3 from HB2.out.trans (hb3.mono (by simp; omega))); clear hb3
    cases D2 with
    | false =>
      go_wp2_with fail
      go_ret
      exact ⟨rfl, HB3.out⟩
    | true =>
      go_wp2_with fail
      go_ret
      exact ⟨rfl, HB3.out⟩

end Go.Proofs.YtbifnogocmgddaaGreat
namespace Go.Proofs.YtbifnogocmgddaaGreat
open Go.RowKit
attribute [local go_sem] less_eq same_eq le_eq ge_eq gt_eq

end Go.Proofs.YtbifnogocmgddaaGreat
namespace Go.Proofs.YtbifnogocmgddaaGreat
open Go.RowKit
attribute [local go_sem] less_eq same_eq le_eq ge_eq gt_eq

theorem repS_stuck {α : Type} {one : Rest → α × Rest} (hone : ∀ S, (one S).2 ≠ none → S ≠ none) {i N : Nat} (h : i ≤ N) {S : Rest} (hs : repS one i S = none) : repS one N S = none := by
  refine Classical.byContradiction fun hn => ?_
  have := repS_add one hone i (N - i) (S := S) (by rw [show i + (N - i) = N by omega]; exact hn)
  exact this hs

end Go.Proofs.YtbifnogocmgddaaGreat
namespace Go.Proofs.YtbifnogocmgddaaGreat
open Go.RowKit
attribute [local go_sem] less_eq same_eq le_eq ge_eq gt_eq

theorem FW.fresh (w : World) (base : Nat) (h : base ≤ w.heap.size) : FW (w.alloc (.cells #[.slice none 0 0] 132)) base w.heap.size [] :=
  ⟨none, 0, Whole.fresh w _ _, Own.nil _ _, h, by simp; omega⟩
theorem listB_len {α : Type} {f : α → List UInt8} {c : Nat} {l : List α} (hl : l.length < 9223372036854775808) (h : ∀ x ∈ l, (f x).length ≤ c) : (listB f l).length ≤ 9 + l.length * c := by
  have h1 := enc_len9 hl
  have h2 : ∀ l : List α, (∀ x ∈ l, (f x).length ≤ c) → (l.flatMap f).length ≤ l.length * c := by
    intro l
    induction l with
    | nil => simp
    | cons a r ih =>
      intro h
      have := ih fun x hx => h x (by simp [hx])
      have := h a (by simp)
      rw [List.flatMap_cons, List.length_append, List.length_cons, Nat.add_mul]
      omega
  have := h2 l h
  rw [listB, List.length_append]; omega
theorem okC {c : Chg} (h : checkAns c = 0) : 0 ≤ c.kind ∧ c.kind < 9223372036854775808 ∧ c.key.size ≤ 65536 ∧ c.val.size ≤ 65536 := by
  unfold checkAns at h
  split at h
  · split at h
    · cases h
    · omega
  · split at h
    · split at h
      · cases h
      · omega
    · split at h
      · split at h
        · cases h
        · omega
      · cases h

end Go.Proofs.YtbifnogocmgddaaGreat
namespace Go.Proofs.YtbifnogocmgddaaGreat
open Go.RowKit
attribute [local go_sem] less_eq same_eq le_eq ge_eq gt_eq

set_option maxHeartbeats 2000000 in
set_option maxRecDepth 100000 in
theorem pputB_bad (x : Bat) (hs : ¬ soundB x) (hr : x.prev < 9223372036854775808 ∧ x.version < 9223372036854775808 ∧ x.known < 9223372036854775808) (hft : fitB x) (v : Value) (w : World) (hv : RdC w w.heap.size v x.chgs) :
    Calls Tryz.prog 43 #[bval x v] w fun e w' => e = .returned (.tuple #[.slice none 0 0, .int .i64 2]) ∧ Below w.heap.size w w' := by
  have hb1 : Below w.heap.size w (w.alloc (.cells #[.int .i64 x.prev, .int .i64 x.version, .int .i64 x.known, v] 35)) := (Below.refl _ _).alloc (Nat.le_refl _) _
  have hsnd := soundB_any x hft v (w.alloc (.cells #[.int .i64 x.prev, .int .i64 x.version, .int .i64 x.known, v] 35)) (hv.next hb1)
  have HV1 := Lib.hid (Whole.fresh w 35 [.int .i64 x.prev, .int .i64 x.version, .int .i64 x.known, v])
  have HB1 := Lib.hid hb1; clear hb1
  have HVB := Lib.hid hv
  obtain ⟨A2, cc2, hvv2, _, _⟩ := hv.at
  subst hvv2
  clear hv
  unfold bval at hsnd ⊢
  rw [decide_eq_false hs] at hsnd
  have HSND := Lib.hid hsnd; clear hsnd
  go_enter Tryz.func43, Tryz.ntmps43
  go_wp2_with fail
  refine HSND.out.mono ?_
  rintro e w2 ⟨rfl, hb2⟩
  have HB2 := Lib.hid (HB1.out.trans (hb2.mono (by simp))); clear hb2
  go_wp2_with fail
  go_ret2
  exact ⟨rfl, HB2.out⟩

set_option maxHeartbeats 8000000 in
set_option maxRecDepth 100000 in
theorem pputBO_ok (x : Bat) (hs : soundB x) (hr : x.prev < 9223372036854775808 ∧ x.version < 9223372036854775808 ∧ x.known < 9223372036854775808) (hft : fitB x) (v : Value) (w : World) (hv : RdC w w.heap.size v x.chgs) :
    Calls Tryz.prog 43 #[bval x v] w fun e w' => ∃ v', e = .returned (.tuple #[v', .int .i64 0]) ∧ OwnB w' w.heap.size v' (batB x) ∧ Below w.heap.size w w' := by
  have hb1 : Below w.heap.size w (w.alloc (.cells #[.int .i64 x.prev, .int .i64 x.version, .int .i64 x.known, v] 35)) := (Below.refl _ _).alloc (Nat.le_refl _) _
  have hsnd := soundB_any x hft v (w.alloc (.cells #[.int .i64 x.prev, .int .i64 x.version, .int .i64 x.known, v] 35)) (hv.next hb1)
  have HV1 := Lib.hid (Whole.fresh w 35 [.int .i64 x.prev, .int .i64 x.version, .int .i64 x.known, v])
  have HB1 := Lib.hid hb1; clear hb1
  have HVB := Lib.hid hv
  obtain ⟨A2, cc2, hvv2, _, _⟩ := hv.at
  subst hvv2
  clear hv
  unfold bval at hsnd ⊢
  rw [decide_eq_true hs] at hsnd
  have HSND := Lib.hid hsnd; clear hsnd
  have hin : batB x = ([] ++ encs [x.prev, x.version, x.known]) ++ listB chgB x.chgs := by simp [batB]
  have hs2 := hs
  obtain ⟨⟨s1, s2, s3⟩, s4, s5⟩ := hs2
  obtain ⟨r1, r2, r3⟩ := hr
  have hch : ∀ c ∈ x.chgs, 0 ≤ c.kind ∧ c.kind < 9223372036854775808 ∧ c.key.size ≤ 65536 ∧ c.val.size ≤ 65536 := fun c h => okC (allAns_all s5 c h)
  have hrng : ∀ n ∈ [x.prev, x.version, x.known], 0 ≤ n ∧ n < 9223372036854775808 := by
    simp only [List.mem_cons, List.not_mem_nil, or_false, forall_eq_or_imp, forall_eq]
    omega
  have hel := encs_len [x.prev, x.version, x.known] (fun n h => (hrng n h).2)
  have hnum := fun (W : World) (v : Value) (base p : Nat) (h1 : FW W base p []) (h2 : RdI W W.heap.size v [x.prev, x.version, x.known]) => fnums_any [x.prev, x.version, x.known] hrng (by simp) v base p [] W h1 h2 (by simp)
  have h1l : ([] ++ encs [x.prev, x.version, x.known]).length ≤ 27 := by simpa using hel
  generalize [] ++ encs [x.prev, x.version, x.known] = L1 at hin hnum h1l
  have hchg := fun (W : World) (base p : Nat) (h1 : FW W base p L1) (h2 : RdC W base (.slice A2 x.chgs.length cc2) x.chgs) => fchgs_any x.chgs hch s4 _ base p L1 W h1 h2 (by omega)
  generalize L1 ++ listB chgB x.chgs = L3 at hin hchg
  have HNUM := Lib.hid hnum
  have HCH := Lib.hid hchg
  have HIN := Lib.hid hin
  clear hnum hchg hin hel h1l hch hrng hs s1 s2 s3 s4 s5 r1 r2 r3 hft
  go_enter Tryz.func43, Tryz.ntmps43
  go_wp2_with fail
  refine HSND.out.mono ?_
  rintro e w0 ⟨rfl, hb2⟩
  have hV0 := HV1.out.below hb2 (by simp)
  have hbw : Below w.heap.size w w0 := HB1.out.trans (hb2.mono (by simp))
  have HV0 := Lib.hid hV0; clear hV0
  have HBW := Lib.hid hbw; clear hbw hb2
  have hlt0 : w.heap.size < w0.heap.size := HV0.out.size
  go_wp2_with fail
  obtain ⟨base, hbase⟩ : ∃ base, base = w0.heap.size := ⟨_, rfl⟩
  have hG0 : w.heap.size < base := by omega
  have HC := Lib.hid (fun W (hW : Below base w0 W) => HV0.out.below hW hG0)
  have HCHG := Lib.hid (fun (W : World) (p : Nat) (h1 : FW W base p L1) (hW : Below base w0 W) => HCH.out W base p h1 (((HVB.out.below HBW.out (Nat.le_refl _)).below hW (by omega)).mono (by omega)))
  clear HCH
  refine wp_region_planT (fun W => Below base w0 W) (.take 1 (.take 2 (.take 3 (.take 4 (.take 5 (.take 6 (.take 9 (.take 10 (.fork 0 (.step 7 (.step 8 (.step 11 (.take 12 (.take 13 (.step 14 (.take 15 (.take 16 .done)))))))) 7 (.step 0 (.step 8 (.step 11 (.take 12 (.take 13 (.step 14 (.take 15 (.take 16 .done))))))))))))))))) (by kernel_rfl) (by kernel_rfl) (fun _ _ d _ _ h => by cases d <;> exact h) ((Below.refl _ _).drew) ?_
  have hS1 : Below base w0 w0.drew := (Below.refl _ _).drew
  have hz1 : base ≤ w0.drew.heap.size := by rw [hbase]; exact Nat.le_refl _
  have HBASE := Lib.hid hbase; clear hbase
  generalize w0.drew = w1 at hS1 hz1 ⊢
  have HS1 := Lib.hid hS1; clear hS1
  refine PlanT.takeI (v := ?_) rfl rfl ?_ ?_; rotate_left; (focus (intro W hW; have hC := HC.out W hW; have k0 := hC.cell 0 _ rfl; have k1 := hC.cell 1 _ rfl; have k2 := hC.cell 2 _ rfl; have k3 := hC.cell 3 _ rfl; go_simp; (try with_reducible rfl); done)); (try simp only [Act.put, List.setIfInBounds_toArray, List.set_cons_zero, List.set_cons_succ])
  refine PlanT.takeI (v := ?_) rfl rfl ?_ ?_; rotate_left; (focus (intro W hW; have hC := HC.out W hW; have k0 := hC.cell 0 _ rfl; have k1 := hC.cell 1 _ rfl; have k2 := hC.cell 2 _ rfl; have k3 := hC.cell 3 _ rfl; go_simp; (try with_reducible rfl); done)); (try simp only [Act.put, List.setIfInBounds_toArray, List.set_cons_zero, List.set_cons_succ])
  refine PlanT.takeI (v := ?_) rfl rfl ?_ ?_; rotate_left; (focus (intro W hW; have hC := HC.out W hW; have k0 := hC.cell 0 _ rfl; have k1 := hC.cell 1 _ rfl; have k2 := hC.cell 2 _ rfl; have k3 := hC.cell 3 _ rfl; go_simp; (try with_reducible rfl); done)); (try simp only [Act.put, List.setIfInBounds_toArray, List.set_cons_zero, List.set_cons_succ])
  refine PlanT.takeI (v := ?_) rfl rfl ?_ ?_; rotate_left; (focus (intro W hW; have hC := HC.out W hW; have k0 := hC.cell 0 _ rfl; have k1 := hC.cell 1 _ rfl; have k2 := hC.cell 2 _ rfl; have k3 := hC.cell 3 _ rfl; go_simp; (try with_reducible rfl); done)); (try simp only [Act.put, List.setIfInBounds_toArray, List.set_cons_zero, List.set_cons_succ])
  refine PlanT.takeI (v := ?_) rfl rfl ?_ ?_; rotate_left; (focus (intro W hW; have hC := HC.out W hW; have k0 := hC.cell 0 _ rfl; have k1 := hC.cell 1 _ rfl; have k2 := hC.cell 2 _ rfl; have k3 := hC.cell 3 _ rfl; go_simp; (try with_reducible rfl); done)); (try simp only [Act.put, List.setIfInBounds_toArray, List.set_cons_zero, List.set_cons_succ])
  refine PlanT.takeI (v := ?_) rfl rfl ?_ ?_; rotate_left; (focus (intro W hW; have hC := HC.out W hW; have k0 := hC.cell 0 _ rfl; have k1 := hC.cell 1 _ rfl; have k2 := hC.cell 2 _ rfl; have k3 := hC.cell 3 _ rfl; go_simp; (try with_reducible rfl); done)); (try simp only [Act.put, List.setIfInBounds_toArray, List.set_cons_zero, List.set_cons_succ])
  refine PlanT.takeI (v := ?_) rfl rfl ?_ ?_; rotate_left; (focus (intro W hW; have hC := HC.out W hW; have k0 := hC.cell 0 _ rfl; have k1 := hC.cell 1 _ rfl; have k2 := hC.cell 2 _ rfl; have k3 := hC.cell 3 _ rfl; go_simp; (try with_reducible rfl); done)); (try simp only [Act.put, List.setIfInBounds_toArray, List.set_cons_zero, List.set_cons_succ])
  refine PlanT.takeI (v := ?_) rfl rfl ?_ ?_; rotate_left; (focus (intro W hW; have hC := HC.out W hW; have k0 := hC.cell 0 _ rfl; have k1 := hC.cell 1 _ rfl; have k2 := hC.cell 2 _ rfl; have k3 := hC.cell 3 _ rfl; go_simp; (try with_reducible rfl); done)); (try simp only [Act.put, List.setIfInBounds_toArray, List.set_cons_zero, List.set_cons_succ])
  refine ⟨?_, ?_⟩
  · refine wpOp_stepT rfl rfl (fun Kk hK => ?_)
    go_simp
    obtain ⟨w10, hw10⟩ : ∃ W, W = w1.alloc (.cells #[.slice none 0 0] 132) := ⟨_, rfl⟩
    have hb10 : Below w1.heap.size w1 w10 := by rw [hw10]; exact (Below.refl _ _).alloc (Nat.le_refl _) _
    have hz10 : base ≤ w10.heap.size := Nat.le_trans hz1 hb10.size
    have hS10 : Below base w0 w10 := HS1.out.trans (hb10.mono hz1)
    have hN10 : FW w10 base w1.heap.size [] := by rw [hw10]; exact FW.fresh _ _ hz1
    rw [← hw10]
    clear hw10 hb10
    obtain ⟨p10, hg10⟩ : ∃ g, g = w1.heap.size := ⟨_, rfl⟩
    rw [← hg10] at hN10 ⊢
    clear hg10
    have HS10 := Lib.hid hS10
    have HF10 := Lib.hid hN10
    refine hK.out _ _ hS10 ?_
    clear hK Kk hS10 hN10
    refine wpOp_stepT rfl rfl (fun Kk hK => ?_)
    go_simp
    obtain ⟨w11, hw11⟩ : ∃ W, W = w10.alloc (.cells #[.int .i64 x.prev, .int .i64 x.version, .int .i64 x.known] 3) := ⟨_, rfl⟩
    have hb11 : Below w10.heap.size w10 w11 := by rw [hw11]; exact (Below.refl _ _).alloc (Nat.le_refl _) _
    have hz11 : base ≤ w11.heap.size := Nat.le_trans hz10 hb11.size
    have hS11 : Below base w0 w11 := HS10.out.trans (hb11.mono hz10)
    have hN11 : RdI w11 w11.heap.size (.slice (some ⟨w10.heap.size, 0, none⟩) 3 3) [x.prev, x.version, x.known] := by rw [hw11, World.size_alloc]; exact RdI.lit _ [x.prev, x.version, x.known]
    have HF11 := Lib.hid (HF10.out.more hb11 (Nat.le_refl _))
    rw [← hw11]
    clear hw11 hb11
    obtain ⟨g11, hg11⟩ : ∃ g, g = w10.heap.size := ⟨_, rfl⟩
    rw [← hg11] at hN11 ⊢
    clear hg11
    have HS11 := Lib.hid hS11
    have HI11_7 := Lib.hid hN11
    refine hK.out _ _ hS11 ?_
    clear hK Kk hS11 hN11
    refine wpOp_stepT rfl rfl (fun Kk hK => ?_)
    go_simp
    go_at_call 72
    refine (HNUM.out _ _ _ _ HF11.out HI11_7.out).mono ?_
    rintro e w12 ⟨rfl, hf12, hb12, hk12⟩
    have hz12 : base ≤ w12.heap.size := hf12.size
    have hS12 : Below base w0 w12 := HS11.out.trans hb12
    have HF12 := Lib.hid hf12
    have HS12 := Lib.hid hS12
    refine hK.out _ _ hS12 ?_
    clear hK Kk hS12 hf12 hb12 hk12
    refine wpOp_stepT rfl rfl (fun Kk hK => ?_)
    go_simp
    go_at_call 73
    refine (HCHG.out _ _ HF12.out HS12.out).mono ?_
    rintro e w13 ⟨rfl, hf13, hb13, hk13⟩
    have hz13 : base ≤ w13.heap.size := hf13.size
    have hS13 : Below base w0 w13 := HS12.out.trans hb13
    have HF13 := Lib.hid hf13
    have HS13 := Lib.hid hS13
    refine hK.out _ _ hS13 ?_
    clear hK Kk hS13 hf13 hb13 hk13
    refine PlanT.takeI (v := ?_) rfl rfl ?_ ?_; rotate_left; (focus (intro W hW;  go_simp; (try with_reducible rfl); done)); (try simp only [Act.put, List.setIfInBounds_toArray, List.set_cons_zero, List.set_cons_succ])
    refine PlanT.takeI (v := ?_) rfl rfl ?_ ?_; rotate_left; (focus (intro W hW;  go_simp; (try with_reducible rfl); done)); (try simp only [Act.put, List.setIfInBounds_toArray, List.set_cons_zero, List.set_cons_succ])
    obtain ⟨A13, c13, hwh13, how13, hpp13, _⟩ := HF13.out
    have q13 := hwh13.cell 0 _ rfl
    have HOW13 := Lib.hid how13
    refine wpOp_stepT rfl rfl (fun Kk hK => ?_)
    go_simp
    refine hK.out _ _ HS13.out ?_
    clear hK Kk
    refine PlanT.takeI (v := ?_) rfl rfl ?_ ?_; rotate_left; (focus (intro W hW;  go_simp; (try with_reducible rfl); done)); (try simp only [Act.put, List.setIfInBounds_toArray, List.set_cons_zero, List.set_cons_succ])
    refine PlanT.takeI (v := ?_) rfl rfl ?_ ?_; rotate_left; (focus (intro W hW;  go_simp; (try with_reducible rfl); done)); (try simp only [Act.put, List.setIfInBounds_toArray, List.set_cons_zero, List.set_cons_succ])
    simp only [PlanT]
    have HBF := Lib.hid (show Below w.heap.size w w13 from HBW.out.trans (HS13.out.mono (by omega)))
    clear how13 hwh13 hpp13
    go_wp2_with fail
    go_ret2
    exact ⟨_, rfl, by rw [HIN.out]; exact HOW13.out.lower (by omega), HBF.out⟩
  · refine wpOp_stepT rfl rfl (fun Kk hK => ?_)
    go_simp
    obtain ⟨w14, hw14⟩ : ∃ W, W = w1.alloc (.cells #[.int .i64 x.prev, .int .i64 x.version, .int .i64 x.known] 3) := ⟨_, rfl⟩
    have hb14 : Below w1.heap.size w1 w14 := by rw [hw14]; exact (Below.refl _ _).alloc (Nat.le_refl _) _
    have hz14 : base ≤ w14.heap.size := Nat.le_trans hz1 hb14.size
    have hS14 : Below base w0 w14 := HS1.out.trans (hb14.mono hz1)
    have hN14 : RdI w14 w14.heap.size (.slice (some ⟨w1.heap.size, 0, none⟩) 3 3) [x.prev, x.version, x.known] := by rw [hw14, World.size_alloc]; exact RdI.lit _ [x.prev, x.version, x.known]
    rw [← hw14]
    clear hw14 hb14
    obtain ⟨g14, hg14⟩ : ∃ g, g = w1.heap.size := ⟨_, rfl⟩
    rw [← hg14] at hN14 ⊢
    clear hg14
    have HS14 := Lib.hid hS14
    have HI14_7 := Lib.hid hN14
    refine hK.out _ _ hS14 ?_
    clear hK Kk hS14 hN14
    refine wpOp_stepT rfl rfl (fun Kk hK => ?_)
    go_simp
    obtain ⟨w15, hw15⟩ : ∃ W, W = w14.alloc (.cells #[.slice none 0 0] 132) := ⟨_, rfl⟩
    have hb15 : Below w14.heap.size w14 w15 := by rw [hw15]; exact (Below.refl _ _).alloc (Nat.le_refl _) _
    have hz15 : base ≤ w15.heap.size := Nat.le_trans hz14 hb15.size
    have hS15 : Below base w0 w15 := HS14.out.trans (hb15.mono hz14)
    have hN15 : FW w15 base w14.heap.size [] := by rw [hw15]; exact FW.fresh _ _ hz14
    have HI15_7 := Lib.hid (show RdI w15 w15.heap.size (.slice (some ⟨g14, 0, none⟩) 3 3) [x.prev, x.version, x.known] from HI14_7.out.next hb15)
    rw [← hw15]
    clear hw15 hb15
    obtain ⟨p15, hg15⟩ : ∃ g, g = w14.heap.size := ⟨_, rfl⟩
    rw [← hg15] at hN15 ⊢
    clear hg15
    have HS15 := Lib.hid hS15
    have HF15 := Lib.hid hN15
    refine hK.out _ _ hS15 ?_
    clear hK Kk hS15 hN15
    refine wpOp_stepT rfl rfl (fun Kk hK => ?_)
    go_simp
    go_at_call 72
    refine (HNUM.out _ _ _ _ HF15.out HI15_7.out).mono ?_
    rintro e w16 ⟨rfl, hf16, hb16, hk16⟩
    have hz16 : base ≤ w16.heap.size := hf16.size
    have hS16 : Below base w0 w16 := HS15.out.trans hb16
    have HF16 := Lib.hid hf16
    have HS16 := Lib.hid hS16
    refine hK.out _ _ hS16 ?_
    clear hK Kk hS16 hf16 hb16 hk16
    refine wpOp_stepT rfl rfl (fun Kk hK => ?_)
    go_simp
    go_at_call 73
    refine (HCHG.out _ _ HF16.out HS16.out).mono ?_
    rintro e w17 ⟨rfl, hf17, hb17, hk17⟩
    have hz17 : base ≤ w17.heap.size := hf17.size
    have hS17 : Below base w0 w17 := HS16.out.trans hb17
    have HF17 := Lib.hid hf17
    have HS17 := Lib.hid hS17
    refine hK.out _ _ hS17 ?_
    clear hK Kk hS17 hf17 hb17 hk17
    refine PlanT.takeI (v := ?_) rfl rfl ?_ ?_; rotate_left; (focus (intro W hW;  go_simp; (try with_reducible rfl); done)); (try simp only [Act.put, List.setIfInBounds_toArray, List.set_cons_zero, List.set_cons_succ])
    refine PlanT.takeI (v := ?_) rfl rfl ?_ ?_; rotate_left; (focus (intro W hW;  go_simp; (try with_reducible rfl); done)); (try simp only [Act.put, List.setIfInBounds_toArray, List.set_cons_zero, List.set_cons_succ])
    obtain ⟨A17, c17, hwh17, how17, hpp17, _⟩ := HF17.out
    have q17 := hwh17.cell 0 _ rfl
    have HOW17 := Lib.hid how17
    refine wpOp_stepT rfl rfl (fun Kk hK => ?_)
    go_simp
    refine hK.out _ _ HS17.out ?_
    clear hK Kk
    refine PlanT.takeI (v := ?_) rfl rfl ?_ ?_; rotate_left; (focus (intro W hW;  go_simp; (try with_reducible rfl); done)); (try simp only [Act.put, List.setIfInBounds_toArray, List.set_cons_zero, List.set_cons_succ])
    refine PlanT.takeI (v := ?_) rfl rfl ?_ ?_; rotate_left; (focus (intro W hW;  go_simp; (try with_reducible rfl); done)); (try simp only [Act.put, List.setIfInBounds_toArray, List.set_cons_zero, List.set_cons_succ])
    simp only [PlanT]
    have HBF := Lib.hid (show Below w.heap.size w w17 from HBW.out.trans (HS17.out.mono (by omega)))
    clear how17 hwh17 hpp17
    go_wp2_with fail
    go_ret2
    exact ⟨_, rfl, by rw [HIN.out]; exact HOW17.out.lower (by omega), HBF.out⟩
theorem pputB_ok (x : Bat) (hs : soundB x) (hr : x.prev < 9223372036854775808 ∧ x.version < 9223372036854775808 ∧ x.known < 9223372036854775808) (hft : fitB x) (v : Value) (w : World) (hv : RdC w w.heap.size v x.chgs) :
    Calls Tryz.prog 43 #[bval x v] w fun e w' => ∃ v', e = .returned (.tuple #[v', .int .i64 0]) ∧ RdB w' w'.heap.size v' (batB x) ∧ Below w.heap.size w w' := by
  refine (pputBO_ok x hs hr hft v w hv).mono ?_
  rintro e w' ⟨v', h1, h2, h3⟩
  exact ⟨v', h1, h2.rdB, h3⟩

end Go.Proofs.YtbifnogocmgddaaGreat
