/- VerdictAll's walk. -/
import Derived.Test.YtmakgjokadcfjaaLawDP
import Derived.Test.YtmakgjokadcfjaaFah
namespace Go.Proofs.Ytmakgjokadcfjaa
open Go.RowKit
attribute [local go_sem] less_eq same_eq le_eq ge_eq gt_eq

set_option maxRecDepth 100000 in
theorem wpList_addIN {ops : Array Oper} {rest : List Oper} {o : Oper} {a : Act} {Q : Exit → Act → World → Prop} {w : World} (hgd : Region.wanted o (yielded ops a.tmps) = true) (s x : Operand)
    (ho : o.op = .call { callee := .builtin .append, args := #[s, x], argTypes := #[23, 23] })
    (base : Nat) (v : Value) (l : List Int) (hs : a.eval s = v) (hown : OwnI w base v l) (B : Nat) (v2 : Value) (p : List Int) (hx : a.eval x = v2) (hp : RdI w B v2 p)
    (hlen : l.length + p.length ≤ 28147497670000) (hbase : base ≤ w.heap.size) (N : Nat) (hN : N = (l ++ p).length)
    (h : ∀ A' c' w', Hid (OwnI w' base (.slice A' N c') (l ++ p)) → Hid (w.grownBy w' v.ownBlock) → Hid (NewRow w v.ownBlock (Value.ownBlock (.slice A' N c'))) → wpList Try.prog ops Q rest (a.put o.dst (.slice A' N c')) w') : wpList Try.prog ops Q (o :: rest) a w := by
  subst hN
  obtain ⟨i0, hi, hz0, hz1, hz2⟩ := info_parts info_int
  refine BigFrame.wpList_want hgd fun K hK => ?_
  refine wp_addAnyN (enc := encI) (k := 1) 23 3 8 i0 _ Try.underlying23 hi hz0 hz1 hz2 rfl (by decide) encI_len encI_one s x ho base v l hs hown B v2 p hx hp (by unfold maxLen; omega) (by omega) hbase fun A' c' w' h1 h2 h3 => ?_
  exact hK _ _ (h A' c' w' (Lib.hid h1) (Lib.hid h2) (Lib.hid h3))
/-- the two lists of verdicts that grow beside one another -/
structure Duo (w0 w : World) (g i : Nat) (A1 : Option Addr) (c1 : Nat) (A2 : Option Addr) (c2 : Nat) : Prop where
  fine : OwnI w g (.slice A1 i c1) (fineOf i)
  none_ : OwnI w g (.slice A2 i c2) (noneOf i)
  apart : ∀ q, (Value.slice A1 i c1).ownBlock = some q → (Value.slice A2 i c2).ownBlock ≠ some q
  bl : Below g w0 w
  sz : g ≤ w.heap.size
/-- the first has one more already -/
structure Duo1 (w0 w : World) (g i : Nat) (A1 : Option Addr) (c1 : Nat) (A2 : Option Addr) (c2 : Nat) : Prop where
  fine : OwnI w g (.slice A1 (i + 1) c1) (fineOf (i + 1))
  none_ : OwnI w g (.slice A2 i c2) (noneOf i)
  apart : ∀ q, (Value.slice A1 (i + 1) c1).ownBlock = some q → (Value.slice A2 i c2).ownBlock ≠ some q
  bl : Below g w0 w
  sz : g ≤ w.heap.size
section
variable {w0 w w' : World} {g i : Nat} {A1 A2 A3 : Option Addr} {c1 c2 c3 : Nat}
theorem Duo.alloc (h : Duo w0 w g i A1 c1 A2 c2) (o : Obj) : Duo w0 (w.alloc o) g i A1 c1 A2 c2 := ⟨h.fine.alloc o, h.none_.alloc o, h.apart, h.bl.alloc h.sz o, by rw [World.size_alloc]; have := h.sz; omega⟩
theorem Duo1.alloc (h : Duo1 w0 w g i A1 c1 A2 c2) (o : Obj) : Duo1 w0 (w.alloc o) g i A1 c1 A2 c2 := ⟨h.fine.alloc o, h.none_.alloc o, h.apart, h.bl.alloc h.sz o, by rw [World.size_alloc]; have := h.sz; omega⟩
theorem not_block {o p : Option Nat} (h : ∀ q, o = some q → p ≠ some q) : p = none ∨ p ≠ o := by
  cases p with
  | none => exact .inl rfl
  | some q => exact .inr (fun e => h q e.symm rfl)
theorem Duo.addF (h : Duo w0 w g i A1 c1 A2 c2) (ho : OwnI w' g (.slice A3 (i + 1) c3) (fineOf (i + 1))) (hg : w.grownBy w' (Value.slice A1 i c1).ownBlock) (hn : NewRow w (Value.slice A1 i c1).ownBlock (Value.slice A3 (i + 1) c3).ownBlock) : Duo1 w0 w' g i A3 c3 A2 c2 :=
  ⟨ho, h.none_.kept hg (not_block h.apart), fun q hq he => by
    have hl := h.none_.low he
    exact hn.out hl.2 (fun e => h.apart q e he) hq, h.fine.grown h.bl hg (Nat.le_refl _) h.sz, Nat.le_trans h.sz hg.size⟩
theorem Duo1.addN (h : Duo1 w0 w g i A1 c1 A2 c2) (ho : OwnI w' g (.slice A3 (i + 1) c3) (noneOf (i + 1))) (hg : w.grownBy w' (Value.slice A2 i c2).ownBlock) (hn : NewRow w (Value.slice A2 i c2).ownBlock (Value.slice A3 (i + 1) c3).ownBlock) : Duo w0 w' g (i + 1) A1 c1 A3 c3 :=
  ⟨h.fine.kept hg (not_block fun q e he => h.apart q he e), ho, fun q hq he => by
    have hl := h.fine.low hq
    exact hn.out hl.2 (fun e => h.apart q hq e) he, h.none_.grown h.bl hg (Nat.le_refl _) h.sz, Nat.le_trans h.sz hg.size⟩
end

set_option maxHeartbeats 4000000 in
set_option maxRecDepth 100000 in
theorem verdictAll_walk (ts : List TxV) (v : Value) (w : World) (hv : TsOk w v ts) :
    Calls Try.prog 8 #[v] w fun e w' => e = .returned (.bool true) ∧ Below w.heap.size w w' := by
  obtain ⟨A, c, rfl, hc, -⟩ := hv.rd.keep
  have hlt := hv.len
  by_cases h40 : (40 : Int) < (ts.length : Int)
  · have hcI : (40 : Int) ≤ (c : Int) := by omega
    obtain ⟨T, hTe⟩ : ∃ T, T = ts.take 40 := ⟨_, rfl⟩
    have hTl : T.length = 40 := by rw [hTe, List.length_take]; omega
    have hT : RdTs w w.heap.size (.slice A T.length c) T := by
      have := hv.rd.take 40 (by omega)
      rw [← hTe] at this
      rw [hTl]
      exact this
    have hf : ∀ x ∈ T, fitT x.t := fun x hx => hv.fit x (List.mem_of_mem_take (by rw [← hTe]; exact hx))
    have hrd : ∀ x ∈ T, x.t.read < 9223372036854775808 := fun x hx => (hv.read x (List.mem_of_mem_take (by rw [← hTe]; exact hx))).2
    have hsm : ∀ x ∈ T, x.t.chgs.length ≤ 3600000000000 := fun x hx => hv.small x (List.mem_of_mem_take (by rw [← hTe]; exact hx))
    have hT40 : T.length ≤ 40 := by omega
    have HSL := Lib.hid (show Value.slice A 40 c = Value.slice A T.length c from by rw [hTl])
    clear hTe hv hTl
    have hP := fun W (h : Below w.heap.size w W) vs vv (hu : RdI W W.heap.size vv vs) (hm : vs.length < 4611686018427387904) => ppick_any T vs _ vv W (hT.next h) hu hf hrd hT40 hm
    have hall := pick_all (T.map (·.t))
    have htl : (T.map (·.t)).length = T.length := by simp
    rw [htl] at hall
    have hfm : (T.map (·.t)).flatMap Txn.chgs = T.flatMap fun x => x.t.chgs := by rw [List.flatMap_map]
    rw [hfm] at hall
    have HP := Lib.hid hP
    have HALL := Lib.hid hall
    have HK := Lib.hid (fun i (h : i < T.length) W (hW : Below w.heap.size w W) => (show ∃ b o A2 c2, A = some ⟨b, o, none⟩ ∧ W.cell? ⟨b, o + i * 3 + 2, none⟩ = some (.slice A2 T[i].t.chgs.length c2) from by
      obtain ⟨A0, c0, e, _, hk⟩ := hT.keep
      injection e with e1 _ _
      obtain ⟨b, o, e2, h3⟩ := hk i h
      obtain ⟨A2, c2, e3, _, _⟩ := (hT.chgs _ (List.getElem_mem h)).at
      refine ⟨b, o, A2, c2, e1.trans e2, ?_⟩
      rw [← e3]
      exact (h3 W hW).2.2))
    have HSM := Lib.hid (fun i (h : i < T.length) => hsm T[i] (List.getElem_mem h))
    clear hP hall htl hfm hT hf hsm
    obtain ⟨g, hg⟩ : ∃ g, g = w.heap.size := ⟨_, rfl⟩
    have HG := Lib.hid hg
    obtain ⟨w1, hw1⟩ : ∃ w1, w1 = (w.alloc (.cells #[] 3)).alloc (.cells #[] 3) := ⟨_, rfl⟩
    have HD0 := Lib.hid (show Duo w w1 g 0 (some ⟨w.heap.size, 0, none⟩) 0 (some ⟨w.heap.size + 1, 0, none⟩) 0 from by
      have h1 := (Own.empty (enc := encI) (k := 1) (e := 3) w w.heap.size (Nat.le_refl _)).alloc (.cells #[] 3)
      have h2 := Own.empty (enc := encI) (k := 1) (e := 3) (w.alloc (.cells #[] 3)) w.heap.size (by simp)
      rw [World.size_alloc] at h2
      rw [hw1, hg]
      refine ⟨h1, h2, ?_, ((Below.refl _ w).alloc (Nat.le_refl _) _).alloc (by simp) _, by simp; omega⟩
      intro q h3 h4
      simp only [Value.ownBlock, Option.some.injEq] at h3 h4
      omega)
    clear hg
    go_enter Try.func8, Try.ntmps8
    go_wp2_with fail
    rw [HSL.out]
    clear hcI h40 HSL
    (try rw [← hw1])
    clear hw1
    go_loopw [3, 4, 5, 6] (fun fv nv cv iv wr => ∃ (i : Nat) (A1 : Option Addr) (c1 : Nat) (A2 : Option Addr) (c2 : Nat), i ≤ T.length ∧ iv = .int .i64 i ∧ fv = .slice A1 i c1 ∧ nv = .slice A2 i c2 ∧ cv = .int .i64 (((T.take i).flatMap fun x => x.t.chgs).length : Nat) ∧ Hid (((T.take i).flatMap fun x => x.t.chgs).length ≤ 3600000000000 * i) ∧ Hid (Duo w wr g i A1 c1 A2 c2)) (fun _ _ _ iv _ => T.length - (intOf iv).toNat)
    case atStart => exact ⟨0, _, _, _, _, Nat.zero_le _, rfl, rfl, rfl, rfl, Lib.hid (by simp), HD0⟩
    case round =>
      obtain ⟨i, A1, c1, A2, c2, hil, rfl, rfl, rfl, rfl, HLN, HD⟩ := hrel
      clear HD0
      have hW : Below w.heap.size w wr := by rw [← HG.out]; exact HD.out.bl
      by_cases hlt : i < T.length
      · have hI0 : (0 : Int) ≤ (i : Int) := by omega
        have hI1 : (i : Int) < (T.length : Int) := by omega
        have hi40 : i ≤ 40 := by omega
        have hsm := HSM.out i hlt
        have hsum : ((T.take (i + 1)).flatMap fun x => x.t.chgs).length = ((T.take i).flatMap fun x => x.t.chgs).length + T[i].t.chgs.length := by
          rw [List.take_succ_eq_append_getElem hlt, List.flatMap_append, List.length_append]
          simp
        have HKI := Lib.hid (HK.out i hlt)
        have HSUM := Lib.hid hsum
        generalize T[i].t.chgs.length = m at hsm HKI HSUM
        have HM := Lib.hid hsm
        obtain ⟨S, hS⟩ : ∃ S, S = ((T.take i).flatMap fun x => x.t.chgs).length := ⟨_, rfl⟩
        rw [← hS] at HSUM HLN ⊢
        have hln := HLN.out
        clear hS hsum
        have hf1 := HD.out.fine
        have HFa := Lib.hid (show OwnI (wr.alloc (.cells #[.int .i64 1] 3)) g (.slice A1 i c1) (fineOf i) from hf1.alloc _)
        have HRa := Lib.hid (show RdI (wr.alloc (.cells #[.int .i64 1] 3)) (wr.heap.size + 1) (.slice (some ⟨wr.heap.size, 0, none⟩) 1 1) [1] from RdI.one wr 1)
        have HBD := Lib.hid (show (fineOf i).length + ([1] : List Int).length ≤ 28147497670000 from by rw [show (fineOf i).length = i from by simp [fineOf]]; simp only [List.length_cons, List.length_nil]; omega)
        have HSa := Lib.hid (show g ≤ (wr.alloc (.cells #[.int .i64 1] 3)).heap.size from by rw [World.size_alloc]; have := HD.out.sz; omega)
        clear hf1 hsm hln
        go_wp2_with (at_builtin; go_must (refine wpList_addIN rfl _ _ rfl g _ (fineOf i) rfl HFa.out _ _ [1] rfl HRa.out HBD.out HSa.out (i + 1) (by simp [fineOf]) ?_))
        intro A3 c3 w2 ho hg2 hn2
        have HD2 := Lib.hid ((HD.out.alloc _).addF (by rw [← fineOf_succ] at ho; exact ho.out) hg2.out hn2.out)
        clear ho hg2 hn2 HFa HRa HBD HSa HD
        obtain ⟨q2, hq2⟩ : ∃ q2 : Nat, q2 = i % 2 := ⟨_, rfl⟩
        obtain ⟨r, hr⟩ : ∃ r : Int, r = 2 + (q2 : Int) := ⟨_, rfl⟩
        have hrI : (i : Int) % 2 = (q2 : Int) := by omega
        have hrw : IntKind.i64.wrap (2 + (q2 : Int)) = r := by rw [IntKind.wrap_i64]; omega
        have HQ2 := Lib.hid hq2
        have HFa := Lib.hid (show OwnI (w2.alloc (.cells #[.int .i64 r] 3)) g (.slice A2 i c2) (noneOf i) from HD2.out.none_.alloc _)
        have HRa := Lib.hid (show RdI (w2.alloc (.cells #[.int .i64 r] 3)) (w2.heap.size + 1) (.slice (some ⟨w2.heap.size, 0, none⟩) 1 1) [r] from RdI.one w2 r)
        have HBD := Lib.hid (show (noneOf i).length + [r].length ≤ 28147497670000 from by rw [show (noneOf i).length = i from by simp [noneOf]]; simp only [List.length_cons, List.length_nil]; omega)
        have HSa := Lib.hid (show g ≤ (w2.alloc (.cells #[.int .i64 r] 3)).heap.size from by rw [World.size_alloc]; have := HD2.out.sz; omega)
        have HRR := Lib.hid hr
        have hr4 : 2 ≤ r ∧ r ≤ 3 := by omega
        clear hr hq2
        go_wp2_with (at_builtin; go_must (refine wpList_addIN rfl _ _ rfl g _ (noneOf i) rfl HFa.out _ _ [r] rfl HRa.out HBD.out HSa.out (i + 1) (by simp [noneOf]) ?_))
        intro A4 c4 w3 ho hg2 hn2
        have HD3 := Lib.hid ((HD2.out.alloc _).addN (by rw [show noneOf (i + 1) = noneOf i ++ [r] from by rw [noneOf_succ, HRR.out, HQ2.out]]; exact ho.out) hg2.out hn2.out)
        clear ho hg2 hn2 HFa HRa HBD HSa HD2 hrI hrw hr4
        obtain ⟨b, o, A5, c5, rfl, k2⟩ := HKI.out w3 (by rw [← HG.out]; exact HD3.out.bl)
        have hln := HLN.out
        have hsm := HM.out
        have hw3 : IntKind.i64.wrap ((S : Int) + (m : Int)) = (S : Int) + (m : Int) := by rw [IntKind.wrap_i64]; omega
        go_wp2_with fail
        go_roundw
        case rel => exact ⟨i + 1, A3, c3, A4, c4, by omega, by go_num, rfl, rfl, congrArg (Value.int .i64) (by rw [HSUM.out]; push_cast; rfl), Lib.hid (by rw [HSUM.out]; omega), HD3⟩
        case measure => simp [intOf]; omega
      · obtain rfl : i = T.length := by omega
        rw [List.take_length] at HLN ⊢
        have HP1 := Lib.hid (fun W (h : Below g w W) (hr : RdI W W.heap.size (.slice A1 T.length c1) (fineOf T.length)) => HP.out W (by rw [← HG.out]; exact h) (fineOf T.length) _ hr (by simp [fineOf]; omega))
        have HP2 := Lib.hid (fun W (h : Below g w W) (hr : RdI W W.heap.size (.slice A2 T.length c2) (noneOf T.length)) => HP.out W (by rw [← HG.out]; exact h) (noneOf T.length) _ hr (by simp [noneOf]; omega))
        have hall := HALL.out
        generalize pickAns (T.map (·.t)) (fineOf T.length) = R1 at HP1 hall
        generalize pickAns (T.map (·.t)) (noneOf T.length) = R2 at HP2 hall
        obtain ⟨L1, e1⟩ := R1
        obtain ⟨L2, e2⟩ := R2
        simp only at HP1 HP2 hall
        obtain ⟨rfl, rfl, hl1⟩ := hall
        obtain ⟨S, hS⟩ : ∃ S, S = (T.flatMap fun x => x.t.chgs).length := ⟨_, rfl⟩
        have hlen : e1 = 0 → L1.length = S := fun e => by rw [hl1 e, hS]
        rw [← hS]
        have HLEN := Lib.hid hlen
        clear hl1 hlen hS HP HALL HK HSM
        have HC1 := Lib.hid (HP1.out wr HD.out.bl (OwnI.rdI HD.out.fine))
        have HR2 := Lib.hid (OwnI.rdI HD.out.none_)
        have HB := Lib.hid HD.out.bl
        have HGS := Lib.hid HD.out.sz
        clear HD HP1
        go_wp2_with fail
        refine HC1.out.mono ?_
        rintro e w2 ⟨v2, rfl, hr2, hb2⟩
        obtain ⟨A6, c6, rfl, -, -⟩ := hr2.at
        have HB2 := Lib.hid (HB.out.trans (hb2.mono HGS.out))
        have HC2 := Lib.hid (HP2.out w2 HB2.out (HR2.out.next hb2))
        have HG2 := Lib.hid (Nat.le_trans HGS.out hb2.size)
        clear hr2 hb2 HP2
        go_wp2_with fail
        refine HC2.out.mono ?_
        rintro e w3 ⟨v3, rfl, hr3, hb3⟩
        obtain ⟨A7, c7, rfl, -, -⟩ := hr3.at
        have HB3 := Lib.hid (HB2.out.trans (hb3.mono HG2.out))
        have HG3 := Lib.hid (Nat.le_trans HG2.out hb3.size)
        clear hr3 hb3
        go_wp2_with fail
        refine (awakeD_any w3).mono ?_
        rintro e w4 ⟨rfl, hb4⟩
        have HB4 := Lib.hid (HB3.out.trans (hb4.mono HG3.out))
        clear hb4
        by_cases he : e1 = 0
        · have hl := HLEN.out he
          subst he
          rw [hl]
          clear hl
          go_wp2_with fail
          go_ret
          exact ⟨rfl, by rw [← HG.out]; exact HB4.out⟩
        · have heb : (e1 == 0) = false := by simpa using he
          go_wp2_with fail
          go_ret
          exact ⟨rfl, by rw [← HG.out]; exact HB4.out⟩
  · obtain ⟨T, rfl⟩ : ∃ T, T = ts := ⟨_, rfl⟩
    have hT := hv.rd
    have hf := hv.fit
    have hrd := fun x hx => (hv.read x hx).2
    have hsm := hv.small
    have hT40 : T.length ≤ 40 := by omega
    clear hv
    have hP := fun W (h : Below w.heap.size w W) vs vv (hu : RdI W W.heap.size vv vs) (hm : vs.length < 4611686018427387904) => ppick_any T vs _ vv W (hT.next h) hu hf hrd hT40 hm
    have hall := pick_all (T.map (·.t))
    have htl : (T.map (·.t)).length = T.length := by simp
    rw [htl] at hall
    have hfm : (T.map (·.t)).flatMap Txn.chgs = T.flatMap fun x => x.t.chgs := by rw [List.flatMap_map]
    rw [hfm] at hall
    have HP := Lib.hid hP
    have HALL := Lib.hid hall
    have HK := Lib.hid (fun i (h : i < T.length) W (hW : Below w.heap.size w W) => (show ∃ b o A2 c2, A = some ⟨b, o, none⟩ ∧ W.cell? ⟨b, o + i * 3 + 2, none⟩ = some (.slice A2 T[i].t.chgs.length c2) from by
      obtain ⟨A0, c0, e, _, hk⟩ := hT.keep
      injection e with e1 _ _
      obtain ⟨b, o, e2, h3⟩ := hk i h
      obtain ⟨A2, c2, e3, _, _⟩ := (hT.chgs _ (List.getElem_mem h)).at
      refine ⟨b, o, A2, c2, e1.trans e2, ?_⟩
      rw [← e3]
      exact (h3 W hW).2.2))
    have HSM := Lib.hid (fun i (h : i < T.length) => hsm T[i] (List.getElem_mem h))
    clear hP hall htl hfm hT hf hsm
    obtain ⟨g, hg⟩ : ∃ g, g = w.heap.size := ⟨_, rfl⟩
    have HG := Lib.hid hg
    obtain ⟨w1, hw1⟩ : ∃ w1, w1 = (w.alloc (.cells #[] 3)).alloc (.cells #[] 3) := ⟨_, rfl⟩
    have HD0 := Lib.hid (show Duo w w1 g 0 (some ⟨w.heap.size, 0, none⟩) 0 (some ⟨w.heap.size + 1, 0, none⟩) 0 from by
      have h1 := (Own.empty (enc := encI) (k := 1) (e := 3) w w.heap.size (Nat.le_refl _)).alloc (.cells #[] 3)
      have h2 := Own.empty (enc := encI) (k := 1) (e := 3) (w.alloc (.cells #[] 3)) w.heap.size (by simp)
      rw [World.size_alloc] at h2
      rw [hw1, hg]
      refine ⟨h1, h2, ?_, ((Below.refl _ w).alloc (Nat.le_refl _) _).alloc (by simp) _, by simp; omega⟩
      intro q h3 h4
      simp only [Value.ownBlock, Option.some.injEq] at h3 h4
      omega)
    clear hg
    go_enter Try.func8, Try.ntmps8
    go_wp2_with fail
    (try rw [← hw1])
    clear hw1
    go_loopw [3, 4, 5, 6] (fun fv nv cv iv wr => ∃ (i : Nat) (A1 : Option Addr) (c1 : Nat) (A2 : Option Addr) (c2 : Nat), i ≤ T.length ∧ iv = .int .i64 i ∧ fv = .slice A1 i c1 ∧ nv = .slice A2 i c2 ∧ cv = .int .i64 (((T.take i).flatMap fun x => x.t.chgs).length : Nat) ∧ Hid (((T.take i).flatMap fun x => x.t.chgs).length ≤ 3600000000000 * i) ∧ Hid (Duo w wr g i A1 c1 A2 c2)) (fun _ _ _ iv _ => T.length - (intOf iv).toNat)
    case atStart => exact ⟨0, _, _, _, _, Nat.zero_le _, rfl, rfl, rfl, rfl, Lib.hid (by simp), HD0⟩
    case round =>
      obtain ⟨i, A1, c1, A2, c2, hil, rfl, rfl, rfl, rfl, HLN, HD⟩ := hrel
      clear HD0
      have hW : Below w.heap.size w wr := by rw [← HG.out]; exact HD.out.bl
      by_cases hlt : i < T.length
      · have hI0 : (0 : Int) ≤ (i : Int) := by omega
        have hI1 : (i : Int) < (T.length : Int) := by omega
        have hi40 : i ≤ 40 := by omega
        have hsm := HSM.out i hlt
        have hsum : ((T.take (i + 1)).flatMap fun x => x.t.chgs).length = ((T.take i).flatMap fun x => x.t.chgs).length + T[i].t.chgs.length := by
          rw [List.take_succ_eq_append_getElem hlt, List.flatMap_append, List.length_append]
          simp
        have HKI := Lib.hid (HK.out i hlt)
        have HSUM := Lib.hid hsum
        generalize T[i].t.chgs.length = m at hsm HKI HSUM
        have HM := Lib.hid hsm
        obtain ⟨S, hS⟩ : ∃ S, S = ((T.take i).flatMap fun x => x.t.chgs).length := ⟨_, rfl⟩
        rw [← hS] at HSUM HLN ⊢
        have hln := HLN.out
        clear hS hsum
        have hf1 := HD.out.fine
        have HFa := Lib.hid (show OwnI (wr.alloc (.cells #[.int .i64 1] 3)) g (.slice A1 i c1) (fineOf i) from hf1.alloc _)
        have HRa := Lib.hid (show RdI (wr.alloc (.cells #[.int .i64 1] 3)) (wr.heap.size + 1) (.slice (some ⟨wr.heap.size, 0, none⟩) 1 1) [1] from RdI.one wr 1)
        have HBD := Lib.hid (show (fineOf i).length + ([1] : List Int).length ≤ 28147497670000 from by rw [show (fineOf i).length = i from by simp [fineOf]]; simp only [List.length_cons, List.length_nil]; omega)
        have HSa := Lib.hid (show g ≤ (wr.alloc (.cells #[.int .i64 1] 3)).heap.size from by rw [World.size_alloc]; have := HD.out.sz; omega)
        clear hf1 hsm hln
        go_wp2_with (at_builtin; go_must (refine wpList_addIN rfl _ _ rfl g _ (fineOf i) rfl HFa.out _ _ [1] rfl HRa.out HBD.out HSa.out (i + 1) (by simp [fineOf]) ?_))
        intro A3 c3 w2 ho hg2 hn2
        have HD2 := Lib.hid ((HD.out.alloc _).addF (by rw [← fineOf_succ] at ho; exact ho.out) hg2.out hn2.out)
        clear ho hg2 hn2 HFa HRa HBD HSa HD
        obtain ⟨q2, hq2⟩ : ∃ q2 : Nat, q2 = i % 2 := ⟨_, rfl⟩
        obtain ⟨r, hr⟩ : ∃ r : Int, r = 2 + (q2 : Int) := ⟨_, rfl⟩
        have hrI : (i : Int) % 2 = (q2 : Int) := by omega
        have hrw : IntKind.i64.wrap (2 + (q2 : Int)) = r := by rw [IntKind.wrap_i64]; omega
        have HQ2 := Lib.hid hq2
        have HFa := Lib.hid (show OwnI (w2.alloc (.cells #[.int .i64 r] 3)) g (.slice A2 i c2) (noneOf i) from HD2.out.none_.alloc _)
        have HRa := Lib.hid (show RdI (w2.alloc (.cells #[.int .i64 r] 3)) (w2.heap.size + 1) (.slice (some ⟨w2.heap.size, 0, none⟩) 1 1) [r] from RdI.one w2 r)
        have HBD := Lib.hid (show (noneOf i).length + [r].length ≤ 28147497670000 from by rw [show (noneOf i).length = i from by simp [noneOf]]; simp only [List.length_cons, List.length_nil]; omega)
        have HSa := Lib.hid (show g ≤ (w2.alloc (.cells #[.int .i64 r] 3)).heap.size from by rw [World.size_alloc]; have := HD2.out.sz; omega)
        have HRR := Lib.hid hr
        have hr4 : 2 ≤ r ∧ r ≤ 3 := by omega
        clear hr hq2
        go_wp2_with (at_builtin; go_must (refine wpList_addIN rfl _ _ rfl g _ (noneOf i) rfl HFa.out _ _ [r] rfl HRa.out HBD.out HSa.out (i + 1) (by simp [noneOf]) ?_))
        intro A4 c4 w3 ho hg2 hn2
        have HD3 := Lib.hid ((HD2.out.alloc _).addN (by rw [show noneOf (i + 1) = noneOf i ++ [r] from by rw [noneOf_succ, HRR.out, HQ2.out]]; exact ho.out) hg2.out hn2.out)
        clear ho hg2 hn2 HFa HRa HBD HSa HD2 hrI hrw hr4
        obtain ⟨b, o, A5, c5, rfl, k2⟩ := HKI.out w3 (by rw [← HG.out]; exact HD3.out.bl)
        have hln := HLN.out
        have hsm := HM.out
        have hw3 : IntKind.i64.wrap ((S : Int) + (m : Int)) = (S : Int) + (m : Int) := by rw [IntKind.wrap_i64]; omega
        go_wp2_with fail
        go_roundw
        case rel => exact ⟨i + 1, A3, c3, A4, c4, by omega, by go_num, rfl, rfl, congrArg (Value.int .i64) (by rw [HSUM.out]; push_cast; rfl), Lib.hid (by rw [HSUM.out]; omega), HD3⟩
        case measure => simp [intOf]; omega
      · obtain rfl : i = T.length := by omega
        rw [List.take_length] at HLN ⊢
        have HP1 := Lib.hid (fun W (h : Below g w W) (hr : RdI W W.heap.size (.slice A1 T.length c1) (fineOf T.length)) => HP.out W (by rw [← HG.out]; exact h) (fineOf T.length) _ hr (by simp [fineOf]; omega))
        have HP2 := Lib.hid (fun W (h : Below g w W) (hr : RdI W W.heap.size (.slice A2 T.length c2) (noneOf T.length)) => HP.out W (by rw [← HG.out]; exact h) (noneOf T.length) _ hr (by simp [noneOf]; omega))
        have hall := HALL.out
        generalize pickAns (T.map (·.t)) (fineOf T.length) = R1 at HP1 hall
        generalize pickAns (T.map (·.t)) (noneOf T.length) = R2 at HP2 hall
        obtain ⟨L1, e1⟩ := R1
        obtain ⟨L2, e2⟩ := R2
        simp only at HP1 HP2 hall
        obtain ⟨rfl, rfl, hl1⟩ := hall
        obtain ⟨S, hS⟩ : ∃ S, S = (T.flatMap fun x => x.t.chgs).length := ⟨_, rfl⟩
        have hlen : e1 = 0 → L1.length = S := fun e => by rw [hl1 e, hS]
        rw [← hS]
        have HLEN := Lib.hid hlen
        clear hl1 hlen hS HP HALL HK HSM
        have HC1 := Lib.hid (HP1.out wr HD.out.bl (OwnI.rdI HD.out.fine))
        have HR2 := Lib.hid (OwnI.rdI HD.out.none_)
        have HB := Lib.hid HD.out.bl
        have HGS := Lib.hid HD.out.sz
        clear HD HP1
        go_wp2_with fail
        refine HC1.out.mono ?_
        rintro e w2 ⟨v2, rfl, hr2, hb2⟩
        obtain ⟨A6, c6, rfl, -, -⟩ := hr2.at
        have HB2 := Lib.hid (HB.out.trans (hb2.mono HGS.out))
        have HC2 := Lib.hid (HP2.out w2 HB2.out (HR2.out.next hb2))
        have HG2 := Lib.hid (Nat.le_trans HGS.out hb2.size)
        clear hr2 hb2 HP2
        go_wp2_with fail
        refine HC2.out.mono ?_
        rintro e w3 ⟨v3, rfl, hr3, hb3⟩
        obtain ⟨A7, c7, rfl, -, -⟩ := hr3.at
        have HB3 := Lib.hid (HB2.out.trans (hb3.mono HG2.out))
        have HG3 := Lib.hid (Nat.le_trans HG2.out hb3.size)
        clear hr3 hb3
        go_wp2_with fail
        refine (awakeD_any w3).mono ?_
        rintro e w4 ⟨rfl, hb4⟩
        have HB4 := Lib.hid (HB3.out.trans (hb4.mono HG3.out))
        clear hb4
        by_cases he : e1 = 0
        · have hl := HLEN.out he
          subst he
          rw [hl]
          clear hl
          go_wp2_with fail
          go_ret
          exact ⟨rfl, by rw [← HG.out]; exact HB4.out⟩
        · have heb : (e1 == 0) = false := by simpa using he
          go_wp2_with fail
          go_ret
          exact ⟨rfl, by rw [← HG.out]; exact HB4.out⟩
end Go.Proofs.Ytmakgjokadcfjaa
