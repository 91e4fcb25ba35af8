/- The law's own game: what its judge answers. -/
import Derived.Test.YtgppgecglkellaaGreatFar
import Derived.Test.YtgppgecglkellaaGreatFaq
namespace Go.Proofs.YtgppgecglkellaaGreat
open Go.RowKit
attribute [local go_sem] less_eq same_eq le_eq ge_eq gt_eq

/-- the reference's marks of a game: where they are -/
abbrev Mo := Option (Nat × Option Nat)
def Mo.v (mo : Mo) : Value := .pointer (mo.map fun x => ⟨x.1, 0, none⟩)
/-- the blocks of a game -/
def GmD (g : Nat) (mo : Mo) (i : Nat) : Prop := i = g ∨ ∃ x, mo = some x ∧ RmD x.1 x.2 i
/-- a game at block g -/
structure GmAt (w : World) (base g : Nat) (mo : Mo) (n : Nat) (r : Rf) (tv : Value) (X : Nat → Prop) : Prop where
  wh : Whole w g 30 [.int .i64 r.epoch, .int .i64 r.version, mo.v, .bool r.judged, tv]
  tl : RdG encI 1 w w.heap.size (fun i => GmD g mo i ∨ X i) tv r.told
  none_ : mo = none → r.epoch = 0
  some_ : ∀ x, mo = some x → r.epoch ≠ 0 ∧ RmAt w base x.1 x.2 n r.mks ∧ x.1 ≠ g ∧ x.2 ≠ some g
  low : base ≤ g ∧ base ≤ w.heap.size
section
variable {w w' : World} {base g n : Nat} {mo : Mo} {r : Rf} {tv : Value} {X X' : Nat → Prop}
theorem GmAt.dom (h : GmAt w base g mo n r tv X) : ∀ i, GmD g mo i → base ≤ i ∧ i < w.heap.size := by
  rintro i (rfl | ⟨x, hx, hi⟩)
  · exact ⟨h.low.1, h.wh.size⟩
  · obtain ⟨_, hm, _⟩ := h.some_ x hx
    rcases hi with rfl | hi
    · exact ⟨hm.low.1, hm.size⟩
    · exact hm.row hi.symm
theorem GmAt.mv {D : Nat → Prop} (h : GmAt w base g mo n r tv X) (hm : Mv D w w') (hn : ∀ i, GmD g mo i → ¬ D i) (ht : RdG encI 1 w w.heap.size (fun i => (GmD g mo i ∨ X' i) ∨ D i) tv r.told) : GmAt w' base g mo n r tv X' :=
  ⟨hm.whole h.wh (hn g (.inl rfl)), (ht.mv hm (Nat.le_refl _) (fun _ _ h => .inr h)).mono hm.size (fun _ _ h => .inl h), h.none_, fun x hx => by
    obtain ⟨h1, h2, h3, h4⟩ := h.some_ x hx
    exact ⟨h1, h2.mv hm (hn _ (.inr ⟨x, hx, .inl rfl⟩)) (fun g2 hg => hn _ (.inr ⟨x, hx, .inr hg.symm⟩)), h3, h4⟩, h.low.1, Nat.le_trans h.low.2 hm.size⟩
theorem GmAt.new (h : GmAt w base g mo n r tv X) (hb : Below w.heap.size w w') : GmAt w' base g mo n r tv X :=
  h.mv (Mv.of_new hb (fun _ => False)) (fun _ _ h => h) (h.tl.mono (Nat.le_refl _) (fun _ _ h => h.elim id False.elim))
theorem GmAt.wide {n' : Nat} (h : GmAt w base g mo n r tv X) (hn : n ≤ n') : GmAt w base g mo n' r tv X :=
  ⟨h.wh, h.tl, h.none_, fun x hx => by obtain ⟨h1, h2, h3⟩ := h.some_ x hx; exact ⟨h1, h2.wide hn, h3⟩, h.low⟩
end
theorem fnext_low {m : Mk} {v : Int} (h : v ≤ m.floor) : fnext m v = m := by
  unfold fnext
  split
  · rfl
  · have : v = m.floor := by omega
    subst this
    rfl
/-- an act as it comes in -/
def gav (what e p v : Int) (A : Option Addr) (n c : Nat) : Value := .agg #[.int .i64 what, .int .i64 e, .int .i64 p, .int .i64 v, .slice A n c]
/-- what stays behind a judge that changes nothing -/
theorem GmAt.stay {w w' : World} {base g n : Nat} {mo : Mo} {r : Rf} {tv : Value} {X : Nat → Prop} (h : GmAt w base g mo n r tv X) (hb : Below w.heap.size w w') :
    ∃ mo' tv', GmAt w' base g mo' (n + 96) r tv' X ∧ (∀ i, GmD g mo' i → GmD g mo i ∨ w.heap.size ≤ i) ∧ Mv (GmD g mo) w w' :=
  ⟨mo, tv, (h.new hb).wide (by omega), fun _ h => .inl h, Mv.of_new hb _⟩

/-- the cells of a game and of an act -/
def GmC (W : World) (ba g : Nat) (e p v : Int) (lv : Value) (ep ver : Int) (mv : Value) (jd : Bool) (tv : Value) : Prop :=
  W.cell? ⟨ba, 1, none⟩ = some (.int .i64 e) ∧ W.cell? ⟨ba, 2, none⟩ = some (.int .i64 p) ∧ W.cell? ⟨ba, 3, none⟩ = some (.int .i64 v) ∧ W.cell? ⟨ba, 4, none⟩ = some lv ∧
    W.cell? ⟨g, 0, none⟩ = some (.int .i64 ep) ∧ W.cell? ⟨g, 1, none⟩ = some (.int .i64 ver) ∧ W.cell? ⟨g, 2, none⟩ = some mv ∧ W.cell? ⟨g, 3, none⟩ = some (.bool jd) ∧ W.cell? ⟨g, 4, none⟩ = some tv
theorem GmC.of {W : World} {ba g : Nat} {wh e p v : Int} {lv : Value} {ep ver : Int} {mv : Value} {jd : Bool} {tv : Value} (h1 : Whole W ba 33 [.int .i64 wh, .int .i64 e, .int .i64 p, .int .i64 v, lv]) (h2 : Whole W g 30 [.int .i64 ep, .int .i64 ver, mv, .bool jd, tv]) : GmC W ba g e p v lv ep ver mv jd tv :=
  ⟨h1.cell 1 _ rfl, h1.cell 2 _ rfl, h1.cell 3 _ rfl, h1.cell 4 _ rfl, h2.cell 0 _ rfl, h2.cell 1 _ rfl, h2.cell 2 _ rfl, h2.cell 3 _ rfl, h2.cell 4 _ rfl⟩
/-- behind a call of its marks -/
theorem GmAt.went {w w' : World} {base g n n' rp : Nat} {ov ov' : Option Nat} {r : Rf} {m : Mk} {tv : Value} {X : Nat → Prop} (h : GmAt w base g (some (rp, ov)) n r tv X) (hw : RmWent w w' base rp ov n' m ov') :
    GmAt w' base g (some (rp, ov')) n' { r with mks := m } tv X ∧ (∀ i, GmD g (some (rp, ov')) i → GmD g (some (rp, ov)) i ∨ w.heap.size ≤ i) ∧ Mv (GmD g (some (rp, ov))) w w' := by
  obtain ⟨h1, h2, h3, h4⟩ := h.some_ _ rfl
  have hg : ¬ RmD rp ov g := fun hd => by
    rcases hd with hd | hd
    · exact h3 hd.symm
    · exact h4 hd.symm
  have hd : ∀ i, GmD g (some (rp, ov')) i → GmD g (some (rp, ov)) i ∨ w.heap.size ≤ i := by
    rintro i (rfl | ⟨x, hx, hi⟩)
    · exact .inl (.inl rfl)
    · injection hx with hx
      subst hx
      rcases hi with hi | hi
      · exact .inl (.inr ⟨_, rfl, .inl hi⟩)
      · rcases hw.new i hi.symm with k | k
        · exact .inl (.inr ⟨_, rfl, .inr k.symm⟩)
        · exact .inr k
  refine ⟨⟨hw.moved.whole h.wh hg, ?_, (fun e => by cases e), fun x hx => ?_, h.low.1, Nat.le_trans h.low.2 hw.moved.size⟩, hd, hw.moved.mono (fun i _ hi => .inr ⟨_, rfl, hi⟩)⟩
  · refine (h.tl.mv hw.moved (Nat.le_refl _) (fun b _ hi => .inl (.inr ⟨_, rfl, hi⟩))).mono hw.moved.size (fun b hb hi => ?_)
    rcases hi with hi | hi
    · rcases hd b hi with k | k
      · exact .inl k
      · omega
    · exact .inr hi
  · injection hx with hx
    subst hx
    exact ⟨h1, hw.now, h3, fun e => by
      rcases hw.new g e with k | k
      · exact h4 k
      · have := h.wh.size; omega⟩
/-- behind what a judge stores -/
theorem GmAt.stored {w w' : World} {base g n : Nat} {mo : Mo} {r r' : Rf} {tv tv' : Value} {X : Nat → Prop} (h : GmAt w base g mo n r tv X) (hm : Mv (fun i => i = g) w w') (hw : Whole w' g 30 [.int .i64 r'.epoch, .int .i64 r'.version, mo.v, .bool r'.judged, tv'])
    (ht : RdG encI 1 w w.heap.size (fun i => GmD g mo i ∨ X i) tv' r'.told) (he : r'.epoch = r.epoch) (hk : r'.mks = r.mks) : GmAt w' base g mo n r' tv' X :=
  ⟨hw, (ht.mv hm (Nat.le_refl _) (fun _ _ e => .inl (.inl e))).mono hm.size (fun _ _ h => h), fun e => he.trans (h.none_ e), fun x hx => by
    obtain ⟨h1, h2, h3, h4⟩ := h.some_ x hx
    exact ⟨by rw [he]; exact h1, by rw [hk]; exact h2.mv hm h3 (fun g2 hg e => h4 (e ▸ hg)), h3, h4⟩, h.low.1, Nat.le_trans h.low.2 hm.size⟩
/-- what it tells lies beside its marks -/
theorem GmAt.apart {w : World} {base g n rp B c : Nat} {ov : Option Nat} {r : Rf} {tv : Value} {A : Option Addr} {O : List Int} {X : Nat → Prop} (h : GmAt w base g (some (rp, ov)) n r tv X) (ho : OwnI w B (.slice A O.length c) O) (hg : g < B) (hr : rp < B) (hX : ∀ i, X i → i < B) :
    RdG encI 1 w w.heap.size (fun i => GmD g (some (rp, ov)) i ∨ X i) (.slice A O.length c) O :=
  RdG.own encI_len ho (fun b hb _ hown hd => by
    obtain ⟨_, hm, _⟩ := h.some_ _ rfl
    rcases hd with (rfl | ⟨x, hx, hd⟩) | hx
    · omega
    · injection hx with hx
      subst hx
      rcases hd with rfl | hd
      · exact absurd hb (Nat.not_le.2 hr)
      · obtain ⟨A2, c2, L, _, hw2, hv2, _⟩ := hm.blk
        exact Own.apart2 ho hw2 (by decide) hown (hv2.trans hd.symm)
    · exact absurd hb (Nat.not_le.2 (hX _ hx)))
theorem jnext_bad {m : Mk} {v : Int} {ts : List Txn} (h : jerr m v ts ≠ 0) : jnext m v ts = m := by
  unfold jnext
  rw [if_neg h]
/-- what a judge of the game leaves -/
def GmPost (w : World) (base g : Nat) (mo : Mo) (n : Nat) (J : List Int × Int × Rf) (X : Nat → Prop) (o : Ending) (w' : World) : Prop :=
  ∃ A' cap, o = .returned (.tuple #[.slice A' J.1.length cap, .int .i64 J.2.1]) ∧
    ∃ mo' tv', GmAt w' base g mo' (n + 96) J.2.2 tv' X ∧ (∀ i, GmD g mo' i → GmD g mo i ∨ w.heap.size ≤ i) ∧ Mv (GmD g mo) w w' ∧ RdI w' w'.heap.size (.slice A' J.1.length cap) J.1

set_option maxHeartbeats 16000000 in
set_option maxRecDepth 100000 in
theorem gmjudge_any (base g n : Nat) (mo : Mo) (r : Rf) (tv : Value) (X : Nat → Prop) (what e p v : Int) (hv : I64 v) (ts : List TxV) (A : Option Addr) (c : Nat) (w : World) (h : GmAt w base g mo n r tv X) (hr : RdTx w base (fun _ => False) (.slice A ts.length c) ts) (hf : ∀ x ∈ ts, fitT x.t) (hn : n + 96 ≤ 90000) (hX : ∀ i, X i → i < w.heap.size) :
    Calls Tryz.prog 11 #[.pointer (some ⟨g, 0, none⟩), gav what e p v A ts.length c] w (GmPost w base g mo n (r.judge e p v (ts.map (·.t))) X) := by
  obtain ⟨wb, hwb⟩ : ∃ wb, wb = w.alloc (.cells #[.int .i64 what, .int .i64 e, .int .i64 p, .int .i64 v, .slice A ts.length c] 33) := ⟨_, rfl⟩
  have hb0 : Below w.heap.size w wb := by rw [hwb]; exact (Below.refl _ w).alloc (Nat.le_refl _) _
  have hB : Whole wb w.heap.size 33 [.int .i64 what, .int .i64 e, .int .i64 p, .int .i64 v, .slice A ts.length c] := by rw [hwb]; exact Whole.fresh w _ [_, _, _, _, _]
  obtain ⟨ba, hba⟩ : ∃ ba, ba = w.heap.size := ⟨_, rfl⟩
  obtain ⟨TA, tc, htv, -, -⟩ := h.tl.atI
  subst htv
  have hgb := (h.new hb0).wh
  rw [← hba] at hB
  have HC := Lib.hid (fun W (hW : Below wb.heap.size wb W) => show GmC W ba g e p v (.slice A ts.length c) r.epoch r.version mo.v r.judged (.slice TA r.told.length tc) from GmC.of (hB.below hW hB.size) (hgb.below hW hgb.size))
  have hb_wb : Below wb.heap.size wb wb := Below.refl _ _
  have H := Lib.hid h
  have HB0 := Lib.hid hb0
  have HSTAY := Lib.hid (fun W (hW : Below wb.heap.size wb W) => h.stay (hb0.trans (hW.mono hb0.size)))
  have HTS := Lib.hid hr
  have HF := Lib.hid hf
  have HV := Lib.hid hv
  have HN := Lib.hid hn
  have HXX := Lib.hid hX
  have HBA := Lib.hid hba
  have HBB := Lib.hid hB
  obtain ⟨J, hJ⟩ : ∃ J, J = r.judge e p v (ts.map (·.t)) := ⟨_, rfl⟩
  rw [← hJ]
  have HJ := Lib.hid hJ
  clear h hb0 hgb hr hf hv hn hX hB hJ
  unfold gav
  go_enter Tryz.func11, Tryz.ntmps11
  go_wp2_with fail
  rw [← hwb, ← hba]
  clear hwb hba
  by_cases he : e = r.epoch
  case neg =>
    have hne : (e == r.epoch) = false := by simpa using he
    obtain ⟨w1, hwd⟩ : ∃ W, W = wb.drew := ⟨_, rfl⟩
    have hb_w1 : Below wb.heap.size wb w1 := by rw [hwd]; exact hb_wb.drew
    refine wp_region_planB [(true, 0), (true, 1), (true, 2), (true, 3), (true, 4), (true, 5), (true, 6), (true, 7), (true, 8), (true, 9), (true, 10), (true, 11), (true, 12), (true, 13), (true, 14)] (by kernel_rfl) (by kernel_rfl) (fun _ _ d _ _ h => by cases d <;> exact h) ?_
    rw [← hwd]
    clear hwd
    have HQ := Lib.hid (fun W (hW : Below w1.heap.size w1 W) => HC.out W (hb_w1.trans (hW.mono hb_w1.size)))
    refine PlanB.take (v := ?_) rfl rfl ?_ ?_; rotate_left; (focus (intro W hW; obtain ⟨a1, a2, a3, a4, g0, g1, g2, g3, g4⟩ := HQ.out W hW; go_simp; (try with_reducible rfl); done)); (try simp only [Act.put, List.setIfInBounds_toArray, List.set_cons_zero, List.set_cons_succ])
    refine PlanB.take (v := ?_) rfl rfl ?_ ?_; rotate_left; (focus (intro W hW; obtain ⟨a1, a2, a3, a4, g0, g1, g2, g3, g4⟩ := HQ.out W hW; go_simp; (try with_reducible rfl); done)); (try simp only [Act.put, List.setIfInBounds_toArray, List.set_cons_zero, List.set_cons_succ])
    refine PlanB.take (v := ?_) rfl rfl ?_ ?_; rotate_left; (focus (intro W hW; obtain ⟨a1, a2, a3, a4, g0, g1, g2, g3, g4⟩ := HQ.out W hW; go_simp; (try with_reducible rfl); done)); (try simp only [Act.put, List.setIfInBounds_toArray, List.set_cons_zero, List.set_cons_succ])
    refine PlanB.take (v := ?_) rfl rfl ?_ ?_; rotate_left; (focus (intro W hW; obtain ⟨a1, a2, a3, a4, g0, g1, g2, g3, g4⟩ := HQ.out W hW; go_simp; (try with_reducible rfl); done)); (try simp only [Act.put, List.setIfInBounds_toArray, List.set_cons_zero, List.set_cons_succ])
    refine PlanB.take (v := ?_) rfl rfl ?_ ?_; rotate_left; (focus (intro W hW; obtain ⟨a1, a2, a3, a4, g0, g1, g2, g3, g4⟩ := HQ.out W hW; go_simp; (try with_reducible rfl); done)); (try simp only [Act.put, List.setIfInBounds_toArray, List.set_cons_zero, List.set_cons_succ])
    refine PlanB.take (v := ?_) rfl rfl ?_ ?_; rotate_left; (focus (intro W hW; obtain ⟨a1, a2, a3, a4, g0, g1, g2, g3, g4⟩ := HQ.out W hW; go_simp; (try with_reducible rfl); done)); (try simp only [Act.put, List.setIfInBounds_toArray, List.set_cons_zero, List.set_cons_succ])
    refine PlanB.take (v := .bool true) rfl rfl ?_ ?_; (focus (intro W hW; obtain ⟨a1, a2, a3, a4, g0, g1, g2, g3, g4⟩ := HQ.out W hW; go_simp; (try with_reducible rfl); done)); (try simp only [Act.put, List.setIfInBounds_toArray, List.set_cons_zero, List.set_cons_succ])
    refine PlanB.take (v := ?_) rfl rfl ?_ ?_; rotate_left; (focus (intro W hW; obtain ⟨a1, a2, a3, a4, g0, g1, g2, g3, g4⟩ := HQ.out W hW; go_simp; (try with_reducible rfl); done)); (try simp only [Act.put, List.setIfInBounds_toArray, List.set_cons_zero, List.set_cons_succ])
    refine PlanB.skip rfl rfl ?_
    (try simp only [Act.put, List.setIfInBounds_toArray, List.set_cons_zero, List.set_cons_succ])
    refine PlanB.skip rfl rfl ?_
    (try simp only [Act.put, List.setIfInBounds_toArray, List.set_cons_zero, List.set_cons_succ])
    refine PlanB.skip rfl rfl ?_
    (try simp only [Act.put, List.setIfInBounds_toArray, List.set_cons_zero, List.set_cons_succ])
    refine PlanB.skip rfl rfl ?_
    (try simp only [Act.put, List.setIfInBounds_toArray, List.set_cons_zero, List.set_cons_succ])
    refine PlanB.skip rfl rfl ?_
    (try simp only [Act.put, List.setIfInBounds_toArray, List.set_cons_zero, List.set_cons_succ])
    refine PlanB.take (v := .bool true) rfl rfl ?_ ?_; (focus (intro W hW; obtain ⟨a1, a2, a3, a4, g0, g1, g2, g3, g4⟩ := HQ.out W hW; go_simp; (try with_reducible rfl); done)); (try simp only [Act.put, List.setIfInBounds_toArray, List.set_cons_zero, List.set_cons_succ])
    refine PlanB.take (v := ?_) rfl rfl ?_ ?_; rotate_left; (focus (intro W hW; obtain ⟨a1, a2, a3, a4, g0, g1, g2, g3, g4⟩ := HQ.out W hW; go_simp; (try with_reducible rfl); done)); (try simp only [Act.put, List.setIfInBounds_toArray, List.set_cons_zero, List.set_cons_succ])
    simp only [PlanB]
    clear HQ
    have hJe := HJ.out.trans (Rf.judge_none he)
    subst hJe
    obtain ⟨mo', tv', k1, k2, k3⟩ := HSTAY.out w1 hb_w1
    go_wp2_with fail
    go_ret2
    exact ⟨none, 0, rfl, mo', tv', k1, k2, k3, Rd.nil _ _⟩
  subst he
  by_cases hz : r.epoch = 0
  case pos =>
    have hzb : (r.epoch == 0) = true := by simpa using hz
    have HZ := Lib.hid hz
    clear hz
    obtain ⟨w1, hwd⟩ : ∃ W, W = wb.drew := ⟨_, rfl⟩
    have hb_w1 : Below wb.heap.size wb w1 := by rw [hwd]; exact hb_wb.drew
    refine wp_region_planB [(true, 0), (true, 1), (true, 2), (true, 3), (true, 4), (true, 5), (true, 6), (true, 7), (true, 8), (true, 9), (true, 10), (true, 11), (true, 12), (true, 13), (true, 14)] (by kernel_rfl) (by kernel_rfl) (fun _ _ d _ _ h => by cases d <;> exact h) ?_
    rw [← hwd]
    clear hwd
    have HQ := Lib.hid (fun W (hW : Below w1.heap.size w1 W) => HC.out W (hb_w1.trans (hW.mono hb_w1.size)))
    refine PlanB.take (v := ?_) rfl rfl ?_ ?_; rotate_left; (focus (intro W hW; obtain ⟨a1, a2, a3, a4, g0, g1, g2, g3, g4⟩ := HQ.out W hW; go_simp; (try with_reducible rfl); done)); (try simp only [Act.put, List.setIfInBounds_toArray, List.set_cons_zero, List.set_cons_succ])
    refine PlanB.take (v := ?_) rfl rfl ?_ ?_; rotate_left; (focus (intro W hW; obtain ⟨a1, a2, a3, a4, g0, g1, g2, g3, g4⟩ := HQ.out W hW; go_simp; (try with_reducible rfl); done)); (try simp only [Act.put, List.setIfInBounds_toArray, List.set_cons_zero, List.set_cons_succ])
    refine PlanB.take (v := ?_) rfl rfl ?_ ?_; rotate_left; (focus (intro W hW; obtain ⟨a1, a2, a3, a4, g0, g1, g2, g3, g4⟩ := HQ.out W hW; go_simp; (try with_reducible rfl); done)); (try simp only [Act.put, List.setIfInBounds_toArray, List.set_cons_zero, List.set_cons_succ])
    refine PlanB.take (v := ?_) rfl rfl ?_ ?_; rotate_left; (focus (intro W hW; obtain ⟨a1, a2, a3, a4, g0, g1, g2, g3, g4⟩ := HQ.out W hW; go_simp; (try with_reducible rfl); done)); (try simp only [Act.put, List.setIfInBounds_toArray, List.set_cons_zero, List.set_cons_succ])
    refine PlanB.take (v := ?_) rfl rfl ?_ ?_; rotate_left; (focus (intro W hW; obtain ⟨a1, a2, a3, a4, g0, g1, g2, g3, g4⟩ := HQ.out W hW; go_simp; (try with_reducible rfl); done)); (try simp only [Act.put, List.setIfInBounds_toArray, List.set_cons_zero, List.set_cons_succ])
    refine PlanB.take (v := ?_) rfl rfl ?_ ?_; rotate_left; (focus (intro W hW; obtain ⟨a1, a2, a3, a4, g0, g1, g2, g3, g4⟩ := HQ.out W hW; go_simp; (try with_reducible rfl); done)); (try simp only [Act.put, List.setIfInBounds_toArray, List.set_cons_zero, List.set_cons_succ])
    refine PlanB.take (v := .bool false) rfl rfl ?_ ?_; (focus (intro W hW; obtain ⟨a1, a2, a3, a4, g0, g1, g2, g3, g4⟩ := HQ.out W hW; go_simp; (try with_reducible rfl); done)); (try simp only [Act.put, List.setIfInBounds_toArray, List.set_cons_zero, List.set_cons_succ])
    refine PlanB.take (v := ?_) rfl rfl ?_ ?_; rotate_left; (focus (intro W hW; obtain ⟨a1, a2, a3, a4, g0, g1, g2, g3, g4⟩ := HQ.out W hW; go_simp; (try with_reducible rfl); done)); (try simp only [Act.put, List.setIfInBounds_toArray, List.set_cons_zero, List.set_cons_succ])
    refine PlanB.take (v := ?_) rfl rfl ?_ ?_; rotate_left; (focus (intro W hW; obtain ⟨a1, a2, a3, a4, g0, g1, g2, g3, g4⟩ := HQ.out W hW; go_simp; (try with_reducible rfl); done)); (try simp only [Act.put, List.setIfInBounds_toArray, List.set_cons_zero, List.set_cons_succ])
    refine PlanB.take (v := ?_) rfl rfl ?_ ?_; rotate_left; (focus (intro W hW; obtain ⟨a1, a2, a3, a4, g0, g1, g2, g3, g4⟩ := HQ.out W hW; go_simp; (try with_reducible rfl); done)); (try simp only [Act.put, List.setIfInBounds_toArray, List.set_cons_zero, List.set_cons_succ])
    refine PlanB.take (v := ?_) rfl rfl ?_ ?_; rotate_left; (focus (intro W hW; obtain ⟨a1, a2, a3, a4, g0, g1, g2, g3, g4⟩ := HQ.out W hW; go_simp; (try with_reducible rfl); done)); (try simp only [Act.put, List.setIfInBounds_toArray, List.set_cons_zero, List.set_cons_succ])
    refine PlanB.take (v := ?_) rfl rfl ?_ ?_; rotate_left; (focus (intro W hW; obtain ⟨a1, a2, a3, a4, g0, g1, g2, g3, g4⟩ := HQ.out W hW; go_simp; (try with_reducible rfl); done)); (try simp only [Act.put, List.setIfInBounds_toArray, List.set_cons_zero, List.set_cons_succ])
    refine PlanB.take (v := .bool true) rfl rfl ?_ ?_; (focus (intro W hW; obtain ⟨a1, a2, a3, a4, g0, g1, g2, g3, g4⟩ := HQ.out W hW; go_simp; (try with_reducible rfl); done)); (try simp only [Act.put, List.setIfInBounds_toArray, List.set_cons_zero, List.set_cons_succ])
    refine PlanB.take (v := .bool true) rfl rfl ?_ ?_; (focus (intro W hW; obtain ⟨a1, a2, a3, a4, g0, g1, g2, g3, g4⟩ := HQ.out W hW; go_simp; (try with_reducible rfl); done)); (try simp only [Act.put, List.setIfInBounds_toArray, List.set_cons_zero, List.set_cons_succ])
    refine PlanB.take (v := ?_) rfl rfl ?_ ?_; rotate_left; (focus (intro W hW; obtain ⟨a1, a2, a3, a4, g0, g1, g2, g3, g4⟩ := HQ.out W hW; go_simp; (try with_reducible rfl); done)); (try simp only [Act.put, List.setIfInBounds_toArray, List.set_cons_zero, List.set_cons_succ])
    simp only [PlanB]
    clear HQ
    have hJe := HJ.out.trans (Rf.judge_zero HZ.out)
    subst hJe
    obtain ⟨mo', tv', k1, k2, k3⟩ := HSTAY.out w1 hb_w1
    go_wp2_with fail
    go_ret2
    exact ⟨none, 0, rfl, mo', tv', k1, k2, k3, Rd.nil _ _⟩
  have hzb : (r.epoch == 0) = false := by simpa using hz
  have HZ := Lib.hid hz
  clear hz
  obtain ⟨w1, hwd⟩ : ∃ W, W = wb.drew := ⟨_, rfl⟩
  have hb_w1 : Below wb.heap.size wb w1 := by rw [hwd]; exact hb_wb.drew
  refine wp_region_planB [(true, 0), (true, 1), (true, 2), (true, 3), (true, 4), (true, 5), (true, 6), (true, 7), (true, 8), (true, 9), (true, 10), (true, 11), (true, 12), (true, 13), (true, 14)] (by kernel_rfl) (by kernel_rfl) (fun _ _ d _ _ h => by cases d <;> exact h) ?_
  rw [← hwd]
  clear hwd
  have HQ := Lib.hid (fun W (hW : Below w1.heap.size w1 W) => HC.out W (hb_w1.trans (hW.mono hb_w1.size)))
  refine PlanB.take (v := ?_) rfl rfl ?_ ?_; rotate_left; (focus (intro W hW; obtain ⟨a1, a2, a3, a4, g0, g1, g2, g3, g4⟩ := HQ.out W hW; go_simp; (try with_reducible rfl); done)); (try simp only [Act.put, List.setIfInBounds_toArray, List.set_cons_zero, List.set_cons_succ])
  refine PlanB.take (v := ?_) rfl rfl ?_ ?_; rotate_left; (focus (intro W hW; obtain ⟨a1, a2, a3, a4, g0, g1, g2, g3, g4⟩ := HQ.out W hW; go_simp; (try with_reducible rfl); done)); (try simp only [Act.put, List.setIfInBounds_toArray, List.set_cons_zero, List.set_cons_succ])
  refine PlanB.take (v := ?_) rfl rfl ?_ ?_; rotate_left; (focus (intro W hW; obtain ⟨a1, a2, a3, a4, g0, g1, g2, g3, g4⟩ := HQ.out W hW; go_simp; (try with_reducible rfl); done)); (try simp only [Act.put, List.setIfInBounds_toArray, List.set_cons_zero, List.set_cons_succ])
  refine PlanB.take (v := ?_) rfl rfl ?_ ?_; rotate_left; (focus (intro W hW; obtain ⟨a1, a2, a3, a4, g0, g1, g2, g3, g4⟩ := HQ.out W hW; go_simp; (try with_reducible rfl); done)); (try simp only [Act.put, List.setIfInBounds_toArray, List.set_cons_zero, List.set_cons_succ])
  refine PlanB.take (v := ?_) rfl rfl ?_ ?_; rotate_left; (focus (intro W hW; obtain ⟨a1, a2, a3, a4, g0, g1, g2, g3, g4⟩ := HQ.out W hW; go_simp; (try with_reducible rfl); done)); (try simp only [Act.put, List.setIfInBounds_toArray, List.set_cons_zero, List.set_cons_succ])
  refine PlanB.take (v := ?_) rfl rfl ?_ ?_; rotate_left; (focus (intro W hW; obtain ⟨a1, a2, a3, a4, g0, g1, g2, g3, g4⟩ := HQ.out W hW; go_simp; (try with_reducible rfl); done)); (try simp only [Act.put, List.setIfInBounds_toArray, List.set_cons_zero, List.set_cons_succ])
  refine PlanB.take (v := .bool false) rfl rfl ?_ ?_; (focus (intro W hW; obtain ⟨a1, a2, a3, a4, g0, g1, g2, g3, g4⟩ := HQ.out W hW; go_simp; (try with_reducible rfl); done)); (try simp only [Act.put, List.setIfInBounds_toArray, List.set_cons_zero, List.set_cons_succ])
  refine PlanB.take (v := ?_) rfl rfl ?_ ?_; rotate_left; (focus (intro W hW; obtain ⟨a1, a2, a3, a4, g0, g1, g2, g3, g4⟩ := HQ.out W hW; go_simp; (try with_reducible rfl); done)); (try simp only [Act.put, List.setIfInBounds_toArray, List.set_cons_zero, List.set_cons_succ])
  refine PlanB.take (v := ?_) rfl rfl ?_ ?_; rotate_left; (focus (intro W hW; obtain ⟨a1, a2, a3, a4, g0, g1, g2, g3, g4⟩ := HQ.out W hW; go_simp; (try with_reducible rfl); done)); (try simp only [Act.put, List.setIfInBounds_toArray, List.set_cons_zero, List.set_cons_succ])
  refine PlanB.take (v := ?_) rfl rfl ?_ ?_; rotate_left; (focus (intro W hW; obtain ⟨a1, a2, a3, a4, g0, g1, g2, g3, g4⟩ := HQ.out W hW; go_simp; (try with_reducible rfl); done)); (try simp only [Act.put, List.setIfInBounds_toArray, List.set_cons_zero, List.set_cons_succ])
  refine PlanB.take (v := ?_) rfl rfl ?_ ?_; rotate_left; (focus (intro W hW; obtain ⟨a1, a2, a3, a4, g0, g1, g2, g3, g4⟩ := HQ.out W hW; go_simp; (try with_reducible rfl); done)); (try simp only [Act.put, List.setIfInBounds_toArray, List.set_cons_zero, List.set_cons_succ])
  refine PlanB.take (v := ?_) rfl rfl ?_ ?_; rotate_left; (focus (intro W hW; obtain ⟨a1, a2, a3, a4, g0, g1, g2, g3, g4⟩ := HQ.out W hW; go_simp; (try with_reducible rfl); done)); (try simp only [Act.put, List.setIfInBounds_toArray, List.set_cons_zero, List.set_cons_succ])
  refine PlanB.take (v := .bool false) rfl rfl ?_ ?_; (focus (intro W hW; obtain ⟨a1, a2, a3, a4, g0, g1, g2, g3, g4⟩ := HQ.out W hW; go_simp; (try with_reducible rfl); done)); (try simp only [Act.put, List.setIfInBounds_toArray, List.set_cons_zero, List.set_cons_succ])
  refine PlanB.take (v := .bool false) rfl rfl ?_ ?_; (focus (intro W hW; obtain ⟨a1, a2, a3, a4, g0, g1, g2, g3, g4⟩ := HQ.out W hW; go_simp; (try with_reducible rfl); done)); (try simp only [Act.put, List.setIfInBounds_toArray, List.set_cons_zero, List.set_cons_succ])
  refine PlanB.take (v := ?_) rfl rfl ?_ ?_; rotate_left; (focus (intro W hW; obtain ⟨a1, a2, a3, a4, g0, g1, g2, g3, g4⟩ := HQ.out W hW; go_simp; (try with_reducible rfl); done)); (try simp only [Act.put, List.setIfInBounds_toArray, List.set_cons_zero, List.set_cons_succ])
  simp only [PlanB]
  clear HQ
  clear hzb
  by_cases hv1 : v = r.version
  case pos =>
    subst hv1
    cases hjd : r.judged
    case true =>
      rw [hjd] at HC
      go_wp2_with fail
      obtain ⟨w2, hwd⟩ : ∃ W, W = w1.drew := ⟨_, rfl⟩
      have hb_w2 : Below wb.heap.size wb w2 := by rw [hwd]; exact hb_w1.drew
      refine wp_region_planB [(true, 0), (true, 1), (true, 2), (true, 3), (true, 4), (true, 5), (true, 6), (true, 7), (true, 8), (true, 9), (true, 10), (true, 11), (true, 12), (true, 13)] (by kernel_rfl) (by kernel_rfl) (fun _ _ d _ _ h => by cases d <;> exact h) ?_
      rw [← hwd]
      clear hwd
      have HQ := Lib.hid (fun W (hW : Below w2.heap.size w2 W) => HC.out W (hb_w2.trans (hW.mono hb_w2.size)))
      refine PlanB.take (v := ?_) rfl rfl ?_ ?_; rotate_left; (focus (intro W hW; obtain ⟨a1, a2, a3, a4, g0, g1, g2, g3, g4⟩ := HQ.out W hW; go_simp; (try with_reducible rfl); done)); (try simp only [Act.put, List.setIfInBounds_toArray, List.set_cons_zero, List.set_cons_succ])
      refine PlanB.take (v := ?_) rfl rfl ?_ ?_; rotate_left; (focus (intro W hW; obtain ⟨a1, a2, a3, a4, g0, g1, g2, g3, g4⟩ := HQ.out W hW; go_simp; (try with_reducible rfl); done)); (try simp only [Act.put, List.setIfInBounds_toArray, List.set_cons_zero, List.set_cons_succ])
      refine PlanB.take (v := ?_) rfl rfl ?_ ?_; rotate_left; (focus (intro W hW; obtain ⟨a1, a2, a3, a4, g0, g1, g2, g3, g4⟩ := HQ.out W hW; go_simp; (try with_reducible rfl); done)); (try simp only [Act.put, List.setIfInBounds_toArray, List.set_cons_zero, List.set_cons_succ])
      refine PlanB.take (v := ?_) rfl rfl ?_ ?_; rotate_left; (focus (intro W hW; obtain ⟨a1, a2, a3, a4, g0, g1, g2, g3, g4⟩ := HQ.out W hW; go_simp; (try with_reducible rfl); done)); (try simp only [Act.put, List.setIfInBounds_toArray, List.set_cons_zero, List.set_cons_succ])
      refine PlanB.take (v := ?_) rfl rfl ?_ ?_; rotate_left; (focus (intro W hW; obtain ⟨a1, a2, a3, a4, g0, g1, g2, g3, g4⟩ := HQ.out W hW; go_simp; (try with_reducible rfl); done)); (try simp only [Act.put, List.setIfInBounds_toArray, List.set_cons_zero, List.set_cons_succ])
      refine PlanB.take (v := ?_) rfl rfl ?_ ?_; rotate_left; (focus (intro W hW; obtain ⟨a1, a2, a3, a4, g0, g1, g2, g3, g4⟩ := HQ.out W hW; go_simp; (try with_reducible rfl); done)); (try simp only [Act.put, List.setIfInBounds_toArray, List.set_cons_zero, List.set_cons_succ])
      refine PlanB.take (v := .bool true) rfl rfl ?_ ?_; (focus (intro W hW; obtain ⟨a1, a2, a3, a4, g0, g1, g2, g3, g4⟩ := HQ.out W hW; go_simp; (try with_reducible rfl); done)); (try simp only [Act.put, List.setIfInBounds_toArray, List.set_cons_zero, List.set_cons_succ])
      refine PlanB.take (v := ?_) rfl rfl ?_ ?_; rotate_left; (focus (intro W hW; obtain ⟨a1, a2, a3, a4, g0, g1, g2, g3, g4⟩ := HQ.out W hW; go_simp; (try with_reducible rfl); done)); (try simp only [Act.put, List.setIfInBounds_toArray, List.set_cons_zero, List.set_cons_succ])
      refine PlanB.take (v := ?_) rfl rfl ?_ ?_; rotate_left; (focus (intro W hW; obtain ⟨a1, a2, a3, a4, g0, g1, g2, g3, g4⟩ := HQ.out W hW; go_simp; (try with_reducible rfl); done)); (try simp only [Act.put, List.setIfInBounds_toArray, List.set_cons_zero, List.set_cons_succ])
      refine PlanB.take (v := ?_) rfl rfl ?_ ?_; rotate_left; (focus (intro W hW; obtain ⟨a1, a2, a3, a4, g0, g1, g2, g3, g4⟩ := HQ.out W hW; go_simp; (try with_reducible rfl); done)); (try simp only [Act.put, List.setIfInBounds_toArray, List.set_cons_zero, List.set_cons_succ])
      refine PlanB.take (v := ?_) rfl rfl ?_ ?_; rotate_left; (focus (intro W hW; obtain ⟨a1, a2, a3, a4, g0, g1, g2, g3, g4⟩ := HQ.out W hW; go_simp; (try with_reducible rfl); done)); (try simp only [Act.put, List.setIfInBounds_toArray, List.set_cons_zero, List.set_cons_succ])
      refine PlanB.take (v := .bool true) rfl rfl ?_ ?_; (focus (intro W hW; obtain ⟨a1, a2, a3, a4, g0, g1, g2, g3, g4⟩ := HQ.out W hW; go_simp; (try with_reducible rfl); done)); (try simp only [Act.put, List.setIfInBounds_toArray, List.set_cons_zero, List.set_cons_succ])
      refine PlanB.take (v := .bool true) rfl rfl ?_ ?_; (focus (intro W hW; obtain ⟨a1, a2, a3, a4, g0, g1, g2, g3, g4⟩ := HQ.out W hW; go_simp; (try with_reducible rfl); done)); (try simp only [Act.put, List.setIfInBounds_toArray, List.set_cons_zero, List.set_cons_succ])
      refine PlanB.take (v := ?_) rfl rfl ?_ ?_; rotate_left; (focus (intro W hW; obtain ⟨a1, a2, a3, a4, g0, g1, g2, g3, g4⟩ := HQ.out W hW; go_simp; (try with_reducible rfl); done)); (try simp only [Act.put, List.setIfInBounds_toArray, List.set_cons_zero, List.set_cons_succ])
      simp only [PlanB]
      clear HQ
      obtain ⟨a1, a2, a3, a4, g0, g1, g2, g3, g4⟩ := HC.out w2 hb_w2
      have hJe := HJ.out.trans (Rf.judge_again rfl HZ.out rfl hjd)
      subst hJe
      obtain ⟨mo', tv', k1, k2, k3⟩ := HSTAY.out w2 hb_w2
      have htold := (H.out.new (HB0.out.trans (hb_w2.mono HB0.out.size))).tl.rd
      have HTD := Lib.hid htold
      clear htold
      go_wp2_with fail
      go_ret2
      exact ⟨TA, tc, rfl, mo', tv', k1, k2, k3, HTD.out⟩
    case false =>
      rw [hjd] at HC
      go_wp2_with fail
      obtain ⟨w2, hwd⟩ : ∃ W, W = w1.drew := ⟨_, rfl⟩
      have hb_w2 : Below wb.heap.size wb w2 := by rw [hwd]; exact hb_w1.drew
      refine wp_region_planB [(true, 0), (true, 1), (true, 2), (true, 3), (true, 4), (true, 5), (true, 6), (true, 7), (true, 8), (true, 9), (true, 10), (true, 11), (true, 12), (true, 13)] (by kernel_rfl) (by kernel_rfl) (fun _ _ d _ _ h => by cases d <;> exact h) ?_
      rw [← hwd]
      clear hwd
      have HQ := Lib.hid (fun W (hW : Below w2.heap.size w2 W) => HC.out W (hb_w2.trans (hW.mono hb_w2.size)))
      refine PlanB.take (v := ?_) rfl rfl ?_ ?_; rotate_left; (focus (intro W hW; obtain ⟨a1, a2, a3, a4, g0, g1, g2, g3, g4⟩ := HQ.out W hW; go_simp; (try with_reducible rfl); done)); (try simp only [Act.put, List.setIfInBounds_toArray, List.set_cons_zero, List.set_cons_succ])
      refine PlanB.take (v := ?_) rfl rfl ?_ ?_; rotate_left; (focus (intro W hW; obtain ⟨a1, a2, a3, a4, g0, g1, g2, g3, g4⟩ := HQ.out W hW; go_simp; (try with_reducible rfl); done)); (try simp only [Act.put, List.setIfInBounds_toArray, List.set_cons_zero, List.set_cons_succ])
      refine PlanB.take (v := ?_) rfl rfl ?_ ?_; rotate_left; (focus (intro W hW; obtain ⟨a1, a2, a3, a4, g0, g1, g2, g3, g4⟩ := HQ.out W hW; go_simp; (try with_reducible rfl); done)); (try simp only [Act.put, List.setIfInBounds_toArray, List.set_cons_zero, List.set_cons_succ])
      refine PlanB.take (v := ?_) rfl rfl ?_ ?_; rotate_left; (focus (intro W hW; obtain ⟨a1, a2, a3, a4, g0, g1, g2, g3, g4⟩ := HQ.out W hW; go_simp; (try with_reducible rfl); done)); (try simp only [Act.put, List.setIfInBounds_toArray, List.set_cons_zero, List.set_cons_succ])
      refine PlanB.take (v := ?_) rfl rfl ?_ ?_; rotate_left; (focus (intro W hW; obtain ⟨a1, a2, a3, a4, g0, g1, g2, g3, g4⟩ := HQ.out W hW; go_simp; (try with_reducible rfl); done)); (try simp only [Act.put, List.setIfInBounds_toArray, List.set_cons_zero, List.set_cons_succ])
      refine PlanB.take (v := ?_) rfl rfl ?_ ?_; rotate_left; (focus (intro W hW; obtain ⟨a1, a2, a3, a4, g0, g1, g2, g3, g4⟩ := HQ.out W hW; go_simp; (try with_reducible rfl); done)); (try simp only [Act.put, List.setIfInBounds_toArray, List.set_cons_zero, List.set_cons_succ])
      refine PlanB.take (v := .bool true) rfl rfl ?_ ?_; (focus (intro W hW; obtain ⟨a1, a2, a3, a4, g0, g1, g2, g3, g4⟩ := HQ.out W hW; go_simp; (try with_reducible rfl); done)); (try simp only [Act.put, List.setIfInBounds_toArray, List.set_cons_zero, List.set_cons_succ])
      refine PlanB.take (v := ?_) rfl rfl ?_ ?_; rotate_left; (focus (intro W hW; obtain ⟨a1, a2, a3, a4, g0, g1, g2, g3, g4⟩ := HQ.out W hW; go_simp; (try with_reducible rfl); done)); (try simp only [Act.put, List.setIfInBounds_toArray, List.set_cons_zero, List.set_cons_succ])
      refine PlanB.take (v := ?_) rfl rfl ?_ ?_; rotate_left; (focus (intro W hW; obtain ⟨a1, a2, a3, a4, g0, g1, g2, g3, g4⟩ := HQ.out W hW; go_simp; (try with_reducible rfl); done)); (try simp only [Act.put, List.setIfInBounds_toArray, List.set_cons_zero, List.set_cons_succ])
      refine PlanB.take (v := ?_) rfl rfl ?_ ?_; rotate_left; (focus (intro W hW; obtain ⟨a1, a2, a3, a4, g0, g1, g2, g3, g4⟩ := HQ.out W hW; go_simp; (try with_reducible rfl); done)); (try simp only [Act.put, List.setIfInBounds_toArray, List.set_cons_zero, List.set_cons_succ])
      refine PlanB.take (v := ?_) rfl rfl ?_ ?_; rotate_left; (focus (intro W hW; obtain ⟨a1, a2, a3, a4, g0, g1, g2, g3, g4⟩ := HQ.out W hW; go_simp; (try with_reducible rfl); done)); (try simp only [Act.put, List.setIfInBounds_toArray, List.set_cons_zero, List.set_cons_succ])
      refine PlanB.take (v := .bool false) rfl rfl ?_ ?_; (focus (intro W hW; obtain ⟨a1, a2, a3, a4, g0, g1, g2, g3, g4⟩ := HQ.out W hW; go_simp; (try with_reducible rfl); done)); (try simp only [Act.put, List.setIfInBounds_toArray, List.set_cons_zero, List.set_cons_succ])
      refine PlanB.take (v := .bool false) rfl rfl ?_ ?_; (focus (intro W hW; obtain ⟨a1, a2, a3, a4, g0, g1, g2, g3, g4⟩ := HQ.out W hW; go_simp; (try with_reducible rfl); done)); (try simp only [Act.put, List.setIfInBounds_toArray, List.set_cons_zero, List.set_cons_succ])
      refine PlanB.take (v := ?_) rfl rfl ?_ ?_; rotate_left; (focus (intro W hW; obtain ⟨a1, a2, a3, a4, g0, g1, g2, g3, g4⟩ := HQ.out W hW; go_simp; (try with_reducible rfl); done)); (try simp only [Act.put, List.setIfInBounds_toArray, List.set_cons_zero, List.set_cons_succ])
      simp only [PlanB]
      clear HQ
      go_wp2_with fail
      obtain ⟨w3, hwd⟩ : ∃ W, W = w2.drew := ⟨_, rfl⟩
      have hb_w3 : Below wb.heap.size wb w3 := by rw [hwd]; exact hb_w2.drew
      refine wp_region_planB [(true, 0), (true, 1), (true, 2), (true, 3), (true, 4), (true, 5), (true, 6), (true, 7)] (by kernel_rfl) (by kernel_rfl) (fun _ _ d _ _ h => by cases d <;> exact h) ?_
      rw [← hwd]
      clear hwd
      have HQ := Lib.hid (fun W (hW : Below w3.heap.size w3 W) => HC.out W (hb_w3.trans (hW.mono hb_w3.size)))
      refine PlanB.take (v := ?_) rfl rfl ?_ ?_; rotate_left; (focus (intro W hW; obtain ⟨a1, a2, a3, a4, g0, g1, g2, g3, g4⟩ := HQ.out W hW; go_simp; (try with_reducible rfl); done)); (try simp only [Act.put, List.setIfInBounds_toArray, List.set_cons_zero, List.set_cons_succ])
      refine PlanB.take (v := ?_) rfl rfl ?_ ?_; rotate_left; (focus (intro W hW; obtain ⟨a1, a2, a3, a4, g0, g1, g2, g3, g4⟩ := HQ.out W hW; go_simp; (try with_reducible rfl); done)); (try simp only [Act.put, List.setIfInBounds_toArray, List.set_cons_zero, List.set_cons_succ])
      refine PlanB.take (v := ?_) rfl rfl ?_ ?_; rotate_left; (focus (intro W hW; obtain ⟨a1, a2, a3, a4, g0, g1, g2, g3, g4⟩ := HQ.out W hW; go_simp; (try with_reducible rfl); done)); (try simp only [Act.put, List.setIfInBounds_toArray, List.set_cons_zero, List.set_cons_succ])
      refine PlanB.take (v := ?_) rfl rfl ?_ ?_; rotate_left; (focus (intro W hW; obtain ⟨a1, a2, a3, a4, g0, g1, g2, g3, g4⟩ := HQ.out W hW; go_simp; (try with_reducible rfl); done)); (try simp only [Act.put, List.setIfInBounds_toArray, List.set_cons_zero, List.set_cons_succ])
      refine PlanB.take (v := ?_) rfl rfl ?_ ?_; rotate_left; (focus (intro W hW; obtain ⟨a1, a2, a3, a4, g0, g1, g2, g3, g4⟩ := HQ.out W hW; go_simp; (try with_reducible rfl); done)); (try simp only [Act.put, List.setIfInBounds_toArray, List.set_cons_zero, List.set_cons_succ])
      refine PlanB.take (v := ?_) rfl rfl ?_ ?_; rotate_left; (focus (intro W hW; obtain ⟨a1, a2, a3, a4, g0, g1, g2, g3, g4⟩ := HQ.out W hW; go_simp; (try with_reducible rfl); done)); (try simp only [Act.put, List.setIfInBounds_toArray, List.set_cons_zero, List.set_cons_succ])
      refine PlanB.take (v := .bool false) rfl rfl ?_ ?_; (focus (intro W hW; obtain ⟨a1, a2, a3, a4, g0, g1, g2, g3, g4⟩ := HQ.out W hW; go_simp; (try with_reducible rfl); done)); (try simp only [Act.put, List.setIfInBounds_toArray, List.set_cons_zero, List.set_cons_succ])
      refine PlanB.take (v := ?_) rfl rfl ?_ ?_; rotate_left; (focus (intro W hW; obtain ⟨a1, a2, a3, a4, g0, g1, g2, g3, g4⟩ := HQ.out W hW; go_simp; (try with_reducible rfl); done)); (try simp only [Act.put, List.setIfInBounds_toArray, List.set_cons_zero, List.set_cons_succ])
      simp only [PlanB]
      clear HQ
      by_cases hp1 : p = r.version
      · subst hp1
        go_wp2_with fail
        obtain ⟨w4, hwd⟩ : ∃ W, W = w3.drew := ⟨_, rfl⟩
        have hb_w4 : Below wb.heap.size wb w4 := by rw [hwd]; exact hb_w3.drew
        refine wp_region_planB [(true, 0), (true, 1), (true, 2), (true, 3), (true, 4), (true, 5), (true, 6), (true, 7), (true, 8), (true, 9), (true, 10), (true, 11), (true, 12), (true, 13), (true, 14), (true, 15), (true, 16)] (by kernel_rfl) (by kernel_rfl) (fun _ _ d _ _ h => by cases d <;> exact h) ?_
        rw [← hwd]
        clear hwd
        have HQ := Lib.hid (fun W (hW : Below w4.heap.size w4 W) => HC.out W (hb_w4.trans (hW.mono hb_w4.size)))
        refine PlanB.take (v := ?_) rfl rfl ?_ ?_; rotate_left; (focus (intro W hW; obtain ⟨a1, a2, a3, a4, g0, g1, g2, g3, g4⟩ := HQ.out W hW; go_simp; (try with_reducible rfl); done)); (try simp only [Act.put, List.setIfInBounds_toArray, List.set_cons_zero, List.set_cons_succ])
        refine PlanB.take (v := ?_) rfl rfl ?_ ?_; rotate_left; (focus (intro W hW; obtain ⟨a1, a2, a3, a4, g0, g1, g2, g3, g4⟩ := HQ.out W hW; go_simp; (try with_reducible rfl); done)); (try simp only [Act.put, List.setIfInBounds_toArray, List.set_cons_zero, List.set_cons_succ])
        refine PlanB.take (v := ?_) rfl rfl ?_ ?_; rotate_left; (focus (intro W hW; obtain ⟨a1, a2, a3, a4, g0, g1, g2, g3, g4⟩ := HQ.out W hW; go_simp; (try with_reducible rfl); done)); (try simp only [Act.put, List.setIfInBounds_toArray, List.set_cons_zero, List.set_cons_succ])
        refine PlanB.take (v := ?_) rfl rfl ?_ ?_; rotate_left; (focus (intro W hW; obtain ⟨a1, a2, a3, a4, g0, g1, g2, g3, g4⟩ := HQ.out W hW; go_simp; (try with_reducible rfl); done)); (try simp only [Act.put, List.setIfInBounds_toArray, List.set_cons_zero, List.set_cons_succ])
        refine PlanB.take (v := ?_) rfl rfl ?_ ?_; rotate_left; (focus (intro W hW; obtain ⟨a1, a2, a3, a4, g0, g1, g2, g3, g4⟩ := HQ.out W hW; go_simp; (try with_reducible rfl); done)); (try simp only [Act.put, List.setIfInBounds_toArray, List.set_cons_zero, List.set_cons_succ])
        refine PlanB.take (v := ?_) rfl rfl ?_ ?_; rotate_left; (focus (intro W hW; obtain ⟨a1, a2, a3, a4, g0, g1, g2, g3, g4⟩ := HQ.out W hW; go_simp; (try with_reducible rfl); done)); (try simp only [Act.put, List.setIfInBounds_toArray, List.set_cons_zero, List.set_cons_succ])
        refine PlanB.take (v := .bool false) rfl rfl ?_ ?_; (focus (intro W hW; obtain ⟨a1, a2, a3, a4, g0, g1, g2, g3, g4⟩ := HQ.out W hW; go_simp; (try with_reducible rfl); done)); (try simp only [Act.put, List.setIfInBounds_toArray, List.set_cons_zero, List.set_cons_succ])
        refine PlanB.take (v := ?_) rfl rfl ?_ ?_; rotate_left; (focus (intro W hW; obtain ⟨a1, a2, a3, a4, g0, g1, g2, g3, g4⟩ := HQ.out W hW; go_simp; (try with_reducible rfl); done)); (try simp only [Act.put, List.setIfInBounds_toArray, List.set_cons_zero, List.set_cons_succ])
        refine PlanB.take (v := ?_) rfl rfl ?_ ?_; rotate_left; (focus (intro W hW; obtain ⟨a1, a2, a3, a4, g0, g1, g2, g3, g4⟩ := HQ.out W hW; go_simp; (try with_reducible rfl); done)); (try simp only [Act.put, List.setIfInBounds_toArray, List.set_cons_zero, List.set_cons_succ])
        refine PlanB.take (v := ?_) rfl rfl ?_ ?_; rotate_left; (focus (intro W hW; obtain ⟨a1, a2, a3, a4, g0, g1, g2, g3, g4⟩ := HQ.out W hW; go_simp; (try with_reducible rfl); done)); (try simp only [Act.put, List.setIfInBounds_toArray, List.set_cons_zero, List.set_cons_succ])
        refine PlanB.take (v := ?_) rfl rfl ?_ ?_; rotate_left; (focus (intro W hW; obtain ⟨a1, a2, a3, a4, g0, g1, g2, g3, g4⟩ := HQ.out W hW; go_simp; (try with_reducible rfl); done)); (try simp only [Act.put, List.setIfInBounds_toArray, List.set_cons_zero, List.set_cons_succ])
        refine PlanB.take (v := ?_) rfl rfl ?_ ?_; rotate_left; (focus (intro W hW; obtain ⟨a1, a2, a3, a4, g0, g1, g2, g3, g4⟩ := HQ.out W hW; go_simp; (try with_reducible rfl); done)); (try simp only [Act.put, List.setIfInBounds_toArray, List.set_cons_zero, List.set_cons_succ])
        refine PlanB.take (v := ?_) rfl rfl ?_ ?_; rotate_left; (focus (intro W hW; obtain ⟨a1, a2, a3, a4, g0, g1, g2, g3, g4⟩ := HQ.out W hW; go_simp; (try with_reducible rfl); done)); (try simp only [Act.put, List.setIfInBounds_toArray, List.set_cons_zero, List.set_cons_succ])
        refine PlanB.take (v := ?_) rfl rfl ?_ ?_; rotate_left; (focus (intro W hW; obtain ⟨a1, a2, a3, a4, g0, g1, g2, g3, g4⟩ := HQ.out W hW; go_simp; (try with_reducible rfl); done)); (try simp only [Act.put, List.setIfInBounds_toArray, List.set_cons_zero, List.set_cons_succ])
        refine PlanB.take (v := .bool true) rfl rfl ?_ ?_; (focus (intro W hW; obtain ⟨a1, a2, a3, a4, g0, g1, g2, g3, g4⟩ := HQ.out W hW; go_simp; (try with_reducible rfl); done)); (try simp only [Act.put, List.setIfInBounds_toArray, List.set_cons_zero, List.set_cons_succ])
        refine PlanB.take (v := .bool true) rfl rfl ?_ ?_; (focus (intro W hW; obtain ⟨a1, a2, a3, a4, g0, g1, g2, g3, g4⟩ := HQ.out W hW; go_simp; (try with_reducible rfl); done)); (try simp only [Act.put, List.setIfInBounds_toArray, List.set_cons_zero, List.set_cons_succ])
        refine PlanB.take (v := ?_) rfl rfl ?_ ?_; rotate_left; (focus (intro W hW; obtain ⟨a1, a2, a3, a4, g0, g1, g2, g3, g4⟩ := HQ.out W hW; go_simp; (try with_reducible rfl); done)); (try simp only [Act.put, List.setIfInBounds_toArray, List.set_cons_zero, List.set_cons_succ])
        simp only [PlanB]
        clear HQ
        have hJe := HJ.out.trans (Rf.judge_stop rfl HZ.out hjd)
        subst hJe
        obtain ⟨mo', tv', k1, k2, k3⟩ := HSTAY.out w4 hb_w4
        go_wp2_with fail
        go_ret2
        exact ⟨none, 0, rfl, mo', tv', k1, k2, k3, Rd.nil _ _⟩
      · have hpb : (p == r.version) = false := by simpa using hp1
        go_wp2_with fail
        obtain ⟨w4, hwd⟩ : ∃ W, W = w3.drew := ⟨_, rfl⟩
        have hb_w4 : Below wb.heap.size wb w4 := by rw [hwd]; exact hb_w3.drew
        refine wp_region_planB [(true, 0), (true, 1), (true, 2), (true, 3), (true, 4), (true, 5), (true, 6), (true, 7), (true, 8), (true, 9), (true, 10), (true, 11), (true, 12), (true, 13), (true, 14), (true, 15), (true, 16)] (by kernel_rfl) (by kernel_rfl) (fun _ _ d _ _ h => by cases d <;> exact h) ?_
        rw [← hwd]
        clear hwd
        have HQ := Lib.hid (fun W (hW : Below w4.heap.size w4 W) => HC.out W (hb_w4.trans (hW.mono hb_w4.size)))
        refine PlanB.take (v := ?_) rfl rfl ?_ ?_; rotate_left; (focus (intro W hW; obtain ⟨a1, a2, a3, a4, g0, g1, g2, g3, g4⟩ := HQ.out W hW; go_simp; (try with_reducible rfl); done)); (try simp only [Act.put, List.setIfInBounds_toArray, List.set_cons_zero, List.set_cons_succ])
        refine PlanB.take (v := ?_) rfl rfl ?_ ?_; rotate_left; (focus (intro W hW; obtain ⟨a1, a2, a3, a4, g0, g1, g2, g3, g4⟩ := HQ.out W hW; go_simp; (try with_reducible rfl); done)); (try simp only [Act.put, List.setIfInBounds_toArray, List.set_cons_zero, List.set_cons_succ])
        refine PlanB.take (v := ?_) rfl rfl ?_ ?_; rotate_left; (focus (intro W hW; obtain ⟨a1, a2, a3, a4, g0, g1, g2, g3, g4⟩ := HQ.out W hW; go_simp; (try with_reducible rfl); done)); (try simp only [Act.put, List.setIfInBounds_toArray, List.set_cons_zero, List.set_cons_succ])
        refine PlanB.take (v := ?_) rfl rfl ?_ ?_; rotate_left; (focus (intro W hW; obtain ⟨a1, a2, a3, a4, g0, g1, g2, g3, g4⟩ := HQ.out W hW; go_simp; (try with_reducible rfl); done)); (try simp only [Act.put, List.setIfInBounds_toArray, List.set_cons_zero, List.set_cons_succ])
        refine PlanB.take (v := ?_) rfl rfl ?_ ?_; rotate_left; (focus (intro W hW; obtain ⟨a1, a2, a3, a4, g0, g1, g2, g3, g4⟩ := HQ.out W hW; go_simp; (try with_reducible rfl); done)); (try simp only [Act.put, List.setIfInBounds_toArray, List.set_cons_zero, List.set_cons_succ])
        refine PlanB.take (v := ?_) rfl rfl ?_ ?_; rotate_left; (focus (intro W hW; obtain ⟨a1, a2, a3, a4, g0, g1, g2, g3, g4⟩ := HQ.out W hW; go_simp; (try with_reducible rfl); done)); (try simp only [Act.put, List.setIfInBounds_toArray, List.set_cons_zero, List.set_cons_succ])
        refine PlanB.take (v := .bool true) rfl rfl ?_ ?_; (focus (intro W hW; obtain ⟨a1, a2, a3, a4, g0, g1, g2, g3, g4⟩ := HQ.out W hW; go_simp; (try with_reducible rfl); done)); (try simp only [Act.put, List.setIfInBounds_toArray, List.set_cons_zero, List.set_cons_succ])
        refine PlanB.take (v := ?_) rfl rfl ?_ ?_; rotate_left; (focus (intro W hW; obtain ⟨a1, a2, a3, a4, g0, g1, g2, g3, g4⟩ := HQ.out W hW; go_simp; (try with_reducible rfl); done)); (try simp only [Act.put, List.setIfInBounds_toArray, List.set_cons_zero, List.set_cons_succ])
        refine PlanB.skip rfl rfl ?_
        (try simp only [Act.put, List.setIfInBounds_toArray, List.set_cons_zero, List.set_cons_succ])
        refine PlanB.skip rfl rfl ?_
        (try simp only [Act.put, List.setIfInBounds_toArray, List.set_cons_zero, List.set_cons_succ])
        refine PlanB.skip rfl rfl ?_
        (try simp only [Act.put, List.setIfInBounds_toArray, List.set_cons_zero, List.set_cons_succ])
        refine PlanB.skip rfl rfl ?_
        (try simp only [Act.put, List.setIfInBounds_toArray, List.set_cons_zero, List.set_cons_succ])
        refine PlanB.skip rfl rfl ?_
        (try simp only [Act.put, List.setIfInBounds_toArray, List.set_cons_zero, List.set_cons_succ])
        refine PlanB.skip rfl rfl ?_
        (try simp only [Act.put, List.setIfInBounds_toArray, List.set_cons_zero, List.set_cons_succ])
        refine PlanB.skip rfl rfl ?_
        (try simp only [Act.put, List.setIfInBounds_toArray, List.set_cons_zero, List.set_cons_succ])
        refine PlanB.take (v := .bool true) rfl rfl ?_ ?_; (focus (intro W hW; obtain ⟨a1, a2, a3, a4, g0, g1, g2, g3, g4⟩ := HQ.out W hW; go_simp; (try with_reducible rfl); done)); (try simp only [Act.put, List.setIfInBounds_toArray, List.set_cons_zero, List.set_cons_succ])
        refine PlanB.take (v := ?_) rfl rfl ?_ ?_; rotate_left; (focus (intro W hW; obtain ⟨a1, a2, a3, a4, g0, g1, g2, g3, g4⟩ := HQ.out W hW; go_simp; (try with_reducible rfl); done)); (try simp only [Act.put, List.setIfInBounds_toArray, List.set_cons_zero, List.set_cons_succ])
        simp only [PlanB]
        clear HQ
        have hJe := HJ.out.trans (Rf.judge_stop rfl HZ.out hjd)
        subst hJe
        obtain ⟨mo', tv', k1, k2, k3⟩ := HSTAY.out w4 hb_w4
        go_wp2_with fail
        go_ret2
        exact ⟨none, 0, rfl, mo', tv', k1, k2, k3, Rd.nil _ _⟩
  have hvb : (v == r.version) = false := by simpa using hv1
  go_wp2_with fail
  obtain ⟨w2, hwd⟩ : ∃ W, W = w1.drew := ⟨_, rfl⟩
  have hb_w2 : Below wb.heap.size wb w2 := by rw [hwd]; exact hb_w1.drew
  refine wp_region_planB [(true, 0), (true, 1), (true, 2), (true, 3), (true, 4), (true, 5), (true, 6), (true, 7), (true, 8), (true, 9), (true, 10), (true, 11), (true, 12), (true, 13)] (by kernel_rfl) (by kernel_rfl) (fun _ _ d _ _ h => by cases d <;> exact h) ?_
  rw [← hwd]
  clear hwd
  have HQ := Lib.hid (fun W (hW : Below w2.heap.size w2 W) => HC.out W (hb_w2.trans (hW.mono hb_w2.size)))
  refine PlanB.take (v := ?_) rfl rfl ?_ ?_; rotate_left; (focus (intro W hW; obtain ⟨a1, a2, a3, a4, g0, g1, g2, g3, g4⟩ := HQ.out W hW; go_simp; (try with_reducible rfl); done)); (try simp only [Act.put, List.setIfInBounds_toArray, List.set_cons_zero, List.set_cons_succ])
  refine PlanB.take (v := ?_) rfl rfl ?_ ?_; rotate_left; (focus (intro W hW; obtain ⟨a1, a2, a3, a4, g0, g1, g2, g3, g4⟩ := HQ.out W hW; go_simp; (try with_reducible rfl); done)); (try simp only [Act.put, List.setIfInBounds_toArray, List.set_cons_zero, List.set_cons_succ])
  refine PlanB.take (v := ?_) rfl rfl ?_ ?_; rotate_left; (focus (intro W hW; obtain ⟨a1, a2, a3, a4, g0, g1, g2, g3, g4⟩ := HQ.out W hW; go_simp; (try with_reducible rfl); done)); (try simp only [Act.put, List.setIfInBounds_toArray, List.set_cons_zero, List.set_cons_succ])
  refine PlanB.take (v := ?_) rfl rfl ?_ ?_; rotate_left; (focus (intro W hW; obtain ⟨a1, a2, a3, a4, g0, g1, g2, g3, g4⟩ := HQ.out W hW; go_simp; (try with_reducible rfl); done)); (try simp only [Act.put, List.setIfInBounds_toArray, List.set_cons_zero, List.set_cons_succ])
  refine PlanB.take (v := ?_) rfl rfl ?_ ?_; rotate_left; (focus (intro W hW; obtain ⟨a1, a2, a3, a4, g0, g1, g2, g3, g4⟩ := HQ.out W hW; go_simp; (try with_reducible rfl); done)); (try simp only [Act.put, List.setIfInBounds_toArray, List.set_cons_zero, List.set_cons_succ])
  refine PlanB.take (v := ?_) rfl rfl ?_ ?_; rotate_left; (focus (intro W hW; obtain ⟨a1, a2, a3, a4, g0, g1, g2, g3, g4⟩ := HQ.out W hW; go_simp; (try with_reducible rfl); done)); (try simp only [Act.put, List.setIfInBounds_toArray, List.set_cons_zero, List.set_cons_succ])
  refine PlanB.take (v := .bool false) rfl rfl ?_ ?_; (focus (intro W hW; obtain ⟨a1, a2, a3, a4, g0, g1, g2, g3, g4⟩ := HQ.out W hW; go_simp; (try with_reducible rfl); done)); (try simp only [Act.put, List.setIfInBounds_toArray, List.set_cons_zero, List.set_cons_succ])
  refine PlanB.take (v := ?_) rfl rfl ?_ ?_; rotate_left; (focus (intro W hW; obtain ⟨a1, a2, a3, a4, g0, g1, g2, g3, g4⟩ := HQ.out W hW; go_simp; (try with_reducible rfl); done)); (try simp only [Act.put, List.setIfInBounds_toArray, List.set_cons_zero, List.set_cons_succ])
  refine PlanB.skip rfl rfl ?_
  (try simp only [Act.put, List.setIfInBounds_toArray, List.set_cons_zero, List.set_cons_succ])
  refine PlanB.skip rfl rfl ?_
  (try simp only [Act.put, List.setIfInBounds_toArray, List.set_cons_zero, List.set_cons_succ])
  refine PlanB.skip rfl rfl ?_
  (try simp only [Act.put, List.setIfInBounds_toArray, List.set_cons_zero, List.set_cons_succ])
  refine PlanB.skip rfl rfl ?_
  (try simp only [Act.put, List.setIfInBounds_toArray, List.set_cons_zero, List.set_cons_succ])
  refine PlanB.take (v := .bool false) rfl rfl ?_ ?_; (focus (intro W hW; obtain ⟨a1, a2, a3, a4, g0, g1, g2, g3, g4⟩ := HQ.out W hW; go_simp; (try with_reducible rfl); done)); (try simp only [Act.put, List.setIfInBounds_toArray, List.set_cons_zero, List.set_cons_succ])
  refine PlanB.take (v := ?_) rfl rfl ?_ ?_; rotate_left; (focus (intro W hW; obtain ⟨a1, a2, a3, a4, g0, g1, g2, g3, g4⟩ := HQ.out W hW; go_simp; (try with_reducible rfl); done)); (try simp only [Act.put, List.setIfInBounds_toArray, List.set_cons_zero, List.set_cons_succ])
  simp only [PlanB]
  clear HQ
  by_cases hlt : v < r.version
  case pos =>
    have hltb : decide (v < r.version) = true := decide_eq_true hlt
    go_wp2_with fail
    obtain ⟨w3, hwd⟩ : ∃ W, W = w2.drew := ⟨_, rfl⟩
    have hb_w3 : Below wb.heap.size wb w3 := by rw [hwd]; exact hb_w2.drew
    refine wp_region_planB [(true, 0), (true, 1), (true, 2), (true, 3), (true, 4), (true, 5), (true, 6), (true, 7)] (by kernel_rfl) (by kernel_rfl) (fun _ _ d _ _ h => by cases d <;> exact h) ?_
    rw [← hwd]
    clear hwd
    have HQ := Lib.hid (fun W (hW : Below w3.heap.size w3 W) => HC.out W (hb_w3.trans (hW.mono hb_w3.size)))
    refine PlanB.take (v := ?_) rfl rfl ?_ ?_; rotate_left; (focus (intro W hW; obtain ⟨a1, a2, a3, a4, g0, g1, g2, g3, g4⟩ := HQ.out W hW; go_simp; (try with_reducible rfl); done)); (try simp only [Act.put, List.setIfInBounds_toArray, List.set_cons_zero, List.set_cons_succ])
    refine PlanB.take (v := ?_) rfl rfl ?_ ?_; rotate_left; (focus (intro W hW; obtain ⟨a1, a2, a3, a4, g0, g1, g2, g3, g4⟩ := HQ.out W hW; go_simp; (try with_reducible rfl); done)); (try simp only [Act.put, List.setIfInBounds_toArray, List.set_cons_zero, List.set_cons_succ])
    refine PlanB.take (v := ?_) rfl rfl ?_ ?_; rotate_left; (focus (intro W hW; obtain ⟨a1, a2, a3, a4, g0, g1, g2, g3, g4⟩ := HQ.out W hW; go_simp; (try with_reducible rfl); done)); (try simp only [Act.put, List.setIfInBounds_toArray, List.set_cons_zero, List.set_cons_succ])
    refine PlanB.take (v := ?_) rfl rfl ?_ ?_; rotate_left; (focus (intro W hW; obtain ⟨a1, a2, a3, a4, g0, g1, g2, g3, g4⟩ := HQ.out W hW; go_simp; (try with_reducible rfl); done)); (try simp only [Act.put, List.setIfInBounds_toArray, List.set_cons_zero, List.set_cons_succ])
    refine PlanB.take (v := ?_) rfl rfl ?_ ?_; rotate_left; (focus (intro W hW; obtain ⟨a1, a2, a3, a4, g0, g1, g2, g3, g4⟩ := HQ.out W hW; go_simp; (try with_reducible rfl); done)); (try simp only [Act.put, List.setIfInBounds_toArray, List.set_cons_zero, List.set_cons_succ])
    refine PlanB.take (v := ?_) rfl rfl ?_ ?_; rotate_left; (focus (intro W hW; obtain ⟨a1, a2, a3, a4, g0, g1, g2, g3, g4⟩ := HQ.out W hW; go_simp; (try with_reducible rfl); done)); (try simp only [Act.put, List.setIfInBounds_toArray, List.set_cons_zero, List.set_cons_succ])
    refine PlanB.take (v := .bool true) rfl rfl ?_ ?_; (focus (intro W hW; obtain ⟨a1, a2, a3, a4, g0, g1, g2, g3, g4⟩ := HQ.out W hW; go_simp; (try with_reducible rfl); done)); (try simp only [Act.put, List.setIfInBounds_toArray, List.set_cons_zero, List.set_cons_succ])
    refine PlanB.take (v := ?_) rfl rfl ?_ ?_; rotate_left; (focus (intro W hW; obtain ⟨a1, a2, a3, a4, g0, g1, g2, g3, g4⟩ := HQ.out W hW; go_simp; (try with_reducible rfl); done)); (try simp only [Act.put, List.setIfInBounds_toArray, List.set_cons_zero, List.set_cons_succ])
    simp only [PlanB]
    clear HQ
    have hJe := HJ.out.trans (Rf.judge_old rfl HZ.out hlt)
    subst hJe
    obtain ⟨mo', tv', k1, k2, k3⟩ := HSTAY.out w3 hb_w3
    go_wp2_with fail
    go_ret2
    exact ⟨none, 0, rfl, mo', tv', k1, k2, k3, Rd.nil _ _⟩
  have hltb : decide (v < r.version) = false := decide_eq_false hlt
  go_wp2_with fail
  obtain ⟨w3, hwd⟩ : ∃ W, W = w2.drew := ⟨_, rfl⟩
  have hb_w3 : Below wb.heap.size wb w3 := by rw [hwd]; exact hb_w2.drew
  refine wp_region_planB [(true, 0), (true, 1), (true, 2), (true, 3), (true, 4), (true, 5), (true, 6), (true, 7)] (by kernel_rfl) (by kernel_rfl) (fun _ _ d _ _ h => by cases d <;> exact h) ?_
  rw [← hwd]
  clear hwd
  have HQ := Lib.hid (fun W (hW : Below w3.heap.size w3 W) => HC.out W (hb_w3.trans (hW.mono hb_w3.size)))
  refine PlanB.take (v := ?_) rfl rfl ?_ ?_; rotate_left; (focus (intro W hW; obtain ⟨a1, a2, a3, a4, g0, g1, g2, g3, g4⟩ := HQ.out W hW; go_simp; (try with_reducible rfl); done)); (try simp only [Act.put, List.setIfInBounds_toArray, List.set_cons_zero, List.set_cons_succ])
  refine PlanB.take (v := ?_) rfl rfl ?_ ?_; rotate_left; (focus (intro W hW; obtain ⟨a1, a2, a3, a4, g0, g1, g2, g3, g4⟩ := HQ.out W hW; go_simp; (try with_reducible rfl); done)); (try simp only [Act.put, List.setIfInBounds_toArray, List.set_cons_zero, List.set_cons_succ])
  refine PlanB.take (v := ?_) rfl rfl ?_ ?_; rotate_left; (focus (intro W hW; obtain ⟨a1, a2, a3, a4, g0, g1, g2, g3, g4⟩ := HQ.out W hW; go_simp; (try with_reducible rfl); done)); (try simp only [Act.put, List.setIfInBounds_toArray, List.set_cons_zero, List.set_cons_succ])
  refine PlanB.take (v := ?_) rfl rfl ?_ ?_; rotate_left; (focus (intro W hW; obtain ⟨a1, a2, a3, a4, g0, g1, g2, g3, g4⟩ := HQ.out W hW; go_simp; (try with_reducible rfl); done)); (try simp only [Act.put, List.setIfInBounds_toArray, List.set_cons_zero, List.set_cons_succ])
  refine PlanB.take (v := ?_) rfl rfl ?_ ?_; rotate_left; (focus (intro W hW; obtain ⟨a1, a2, a3, a4, g0, g1, g2, g3, g4⟩ := HQ.out W hW; go_simp; (try with_reducible rfl); done)); (try simp only [Act.put, List.setIfInBounds_toArray, List.set_cons_zero, List.set_cons_succ])
  refine PlanB.take (v := ?_) rfl rfl ?_ ?_; rotate_left; (focus (intro W hW; obtain ⟨a1, a2, a3, a4, g0, g1, g2, g3, g4⟩ := HQ.out W hW; go_simp; (try with_reducible rfl); done)); (try simp only [Act.put, List.setIfInBounds_toArray, List.set_cons_zero, List.set_cons_succ])
  refine PlanB.take (v := .bool false) rfl rfl ?_ ?_; (focus (intro W hW; obtain ⟨a1, a2, a3, a4, g0, g1, g2, g3, g4⟩ := HQ.out W hW; go_simp; (try with_reducible rfl); done)); (try simp only [Act.put, List.setIfInBounds_toArray, List.set_cons_zero, List.set_cons_succ])
  refine PlanB.take (v := ?_) rfl rfl ?_ ?_; rotate_left; (focus (intro W hW; obtain ⟨a1, a2, a3, a4, g0, g1, g2, g3, g4⟩ := HQ.out W hW; go_simp; (try with_reducible rfl); done)); (try simp only [Act.put, List.setIfInBounds_toArray, List.set_cons_zero, List.set_cons_succ])
  simp only [PlanB]
  clear HQ
  have hgt : r.version < v := by omega
  by_cases hp1 : p = r.version
  case neg =>
    have hpb : (p == r.version) = false := by simpa using hp1
    go_wp2_with fail
    obtain ⟨w4, hwd⟩ : ∃ W, W = w3.drew := ⟨_, rfl⟩
    have hb_w4 : Below wb.heap.size wb w4 := by rw [hwd]; exact hb_w3.drew
    refine wp_region_planB [(true, 0), (true, 1), (true, 2), (true, 3), (true, 4), (true, 5), (true, 6), (true, 7), (true, 8), (true, 9), (true, 10), (true, 11), (true, 12), (true, 13), (true, 14), (true, 15), (true, 16)] (by kernel_rfl) (by kernel_rfl) (fun _ _ d _ _ h => by cases d <;> exact h) ?_
    rw [← hwd]
    clear hwd
    have HQ := Lib.hid (fun W (hW : Below w4.heap.size w4 W) => HC.out W (hb_w4.trans (hW.mono hb_w4.size)))
    refine PlanB.take (v := ?_) rfl rfl ?_ ?_; rotate_left; (focus (intro W hW; obtain ⟨a1, a2, a3, a4, g0, g1, g2, g3, g4⟩ := HQ.out W hW; go_simp; (try with_reducible rfl); done)); (try simp only [Act.put, List.setIfInBounds_toArray, List.set_cons_zero, List.set_cons_succ])
    refine PlanB.take (v := ?_) rfl rfl ?_ ?_; rotate_left; (focus (intro W hW; obtain ⟨a1, a2, a3, a4, g0, g1, g2, g3, g4⟩ := HQ.out W hW; go_simp; (try with_reducible rfl); done)); (try simp only [Act.put, List.setIfInBounds_toArray, List.set_cons_zero, List.set_cons_succ])
    refine PlanB.take (v := ?_) rfl rfl ?_ ?_; rotate_left; (focus (intro W hW; obtain ⟨a1, a2, a3, a4, g0, g1, g2, g3, g4⟩ := HQ.out W hW; go_simp; (try with_reducible rfl); done)); (try simp only [Act.put, List.setIfInBounds_toArray, List.set_cons_zero, List.set_cons_succ])
    refine PlanB.take (v := ?_) rfl rfl ?_ ?_; rotate_left; (focus (intro W hW; obtain ⟨a1, a2, a3, a4, g0, g1, g2, g3, g4⟩ := HQ.out W hW; go_simp; (try with_reducible rfl); done)); (try simp only [Act.put, List.setIfInBounds_toArray, List.set_cons_zero, List.set_cons_succ])
    refine PlanB.take (v := ?_) rfl rfl ?_ ?_; rotate_left; (focus (intro W hW; obtain ⟨a1, a2, a3, a4, g0, g1, g2, g3, g4⟩ := HQ.out W hW; go_simp; (try with_reducible rfl); done)); (try simp only [Act.put, List.setIfInBounds_toArray, List.set_cons_zero, List.set_cons_succ])
    refine PlanB.take (v := ?_) rfl rfl ?_ ?_; rotate_left; (focus (intro W hW; obtain ⟨a1, a2, a3, a4, g0, g1, g2, g3, g4⟩ := HQ.out W hW; go_simp; (try with_reducible rfl); done)); (try simp only [Act.put, List.setIfInBounds_toArray, List.set_cons_zero, List.set_cons_succ])
    refine PlanB.take (v := .bool true) rfl rfl ?_ ?_; (focus (intro W hW; obtain ⟨a1, a2, a3, a4, g0, g1, g2, g3, g4⟩ := HQ.out W hW; go_simp; (try with_reducible rfl); done)); (try simp only [Act.put, List.setIfInBounds_toArray, List.set_cons_zero, List.set_cons_succ])
    refine PlanB.take (v := ?_) rfl rfl ?_ ?_; rotate_left; (focus (intro W hW; obtain ⟨a1, a2, a3, a4, g0, g1, g2, g3, g4⟩ := HQ.out W hW; go_simp; (try with_reducible rfl); done)); (try simp only [Act.put, List.setIfInBounds_toArray, List.set_cons_zero, List.set_cons_succ])
    refine PlanB.skip rfl rfl ?_
    (try simp only [Act.put, List.setIfInBounds_toArray, List.set_cons_zero, List.set_cons_succ])
    refine PlanB.skip rfl rfl ?_
    (try simp only [Act.put, List.setIfInBounds_toArray, List.set_cons_zero, List.set_cons_succ])
    refine PlanB.skip rfl rfl ?_
    (try simp only [Act.put, List.setIfInBounds_toArray, List.set_cons_zero, List.set_cons_succ])
    refine PlanB.skip rfl rfl ?_
    (try simp only [Act.put, List.setIfInBounds_toArray, List.set_cons_zero, List.set_cons_succ])
    refine PlanB.skip rfl rfl ?_
    (try simp only [Act.put, List.setIfInBounds_toArray, List.set_cons_zero, List.set_cons_succ])
    refine PlanB.skip rfl rfl ?_
    (try simp only [Act.put, List.setIfInBounds_toArray, List.set_cons_zero, List.set_cons_succ])
    refine PlanB.skip rfl rfl ?_
    (try simp only [Act.put, List.setIfInBounds_toArray, List.set_cons_zero, List.set_cons_succ])
    refine PlanB.take (v := .bool true) rfl rfl ?_ ?_; (focus (intro W hW; obtain ⟨a1, a2, a3, a4, g0, g1, g2, g3, g4⟩ := HQ.out W hW; go_simp; (try with_reducible rfl); done)); (try simp only [Act.put, List.setIfInBounds_toArray, List.set_cons_zero, List.set_cons_succ])
    refine PlanB.take (v := ?_) rfl rfl ?_ ?_; rotate_left; (focus (intro W hW; obtain ⟨a1, a2, a3, a4, g0, g1, g2, g3, g4⟩ := HQ.out W hW; go_simp; (try with_reducible rfl); done)); (try simp only [Act.put, List.setIfInBounds_toArray, List.set_cons_zero, List.set_cons_succ])
    simp only [PlanB]
    clear HQ
    have hJe := HJ.out.trans (Rf.judge_order rfl HZ.out hgt hp1)
    subst hJe
    obtain ⟨mo', tv', k1, k2, k3⟩ := HSTAY.out w4 hb_w4
    go_wp2_with fail
    go_ret2
    exact ⟨none, 0, rfl, mo', tv', k1, k2, k3, Rd.nil _ _⟩
  subst hp1
  go_wp2_with fail
  obtain ⟨w4, hwd⟩ : ∃ W, W = w3.drew := ⟨_, rfl⟩
  have hb_w4 : Below wb.heap.size wb w4 := by rw [hwd]; exact hb_w3.drew
  refine wp_region_planB [(true, 0), (true, 1), (true, 2), (true, 3), (true, 4), (true, 5), (true, 6), (true, 7), (true, 8), (true, 9), (true, 10), (true, 11), (true, 12), (true, 13), (true, 14), (true, 15), (true, 16)] (by kernel_rfl) (by kernel_rfl) (fun _ _ d _ _ h => by cases d <;> exact h) ?_
  rw [← hwd]
  clear hwd
  have HQ := Lib.hid (fun W (hW : Below w4.heap.size w4 W) => HC.out W (hb_w4.trans (hW.mono hb_w4.size)))
  refine PlanB.take (v := ?_) rfl rfl ?_ ?_; rotate_left; (focus (intro W hW; obtain ⟨a1, a2, a3, a4, g0, g1, g2, g3, g4⟩ := HQ.out W hW; go_simp; (try with_reducible rfl); done)); (try simp only [Act.put, List.setIfInBounds_toArray, List.set_cons_zero, List.set_cons_succ])
  refine PlanB.take (v := ?_) rfl rfl ?_ ?_; rotate_left; (focus (intro W hW; obtain ⟨a1, a2, a3, a4, g0, g1, g2, g3, g4⟩ := HQ.out W hW; go_simp; (try with_reducible rfl); done)); (try simp only [Act.put, List.setIfInBounds_toArray, List.set_cons_zero, List.set_cons_succ])
  refine PlanB.take (v := ?_) rfl rfl ?_ ?_; rotate_left; (focus (intro W hW; obtain ⟨a1, a2, a3, a4, g0, g1, g2, g3, g4⟩ := HQ.out W hW; go_simp; (try with_reducible rfl); done)); (try simp only [Act.put, List.setIfInBounds_toArray, List.set_cons_zero, List.set_cons_succ])
  refine PlanB.take (v := ?_) rfl rfl ?_ ?_; rotate_left; (focus (intro W hW; obtain ⟨a1, a2, a3, a4, g0, g1, g2, g3, g4⟩ := HQ.out W hW; go_simp; (try with_reducible rfl); done)); (try simp only [Act.put, List.setIfInBounds_toArray, List.set_cons_zero, List.set_cons_succ])
  refine PlanB.take (v := ?_) rfl rfl ?_ ?_; rotate_left; (focus (intro W hW; obtain ⟨a1, a2, a3, a4, g0, g1, g2, g3, g4⟩ := HQ.out W hW; go_simp; (try with_reducible rfl); done)); (try simp only [Act.put, List.setIfInBounds_toArray, List.set_cons_zero, List.set_cons_succ])
  refine PlanB.take (v := ?_) rfl rfl ?_ ?_; rotate_left; (focus (intro W hW; obtain ⟨a1, a2, a3, a4, g0, g1, g2, g3, g4⟩ := HQ.out W hW; go_simp; (try with_reducible rfl); done)); (try simp only [Act.put, List.setIfInBounds_toArray, List.set_cons_zero, List.set_cons_succ])
  refine PlanB.take (v := .bool false) rfl rfl ?_ ?_; (focus (intro W hW; obtain ⟨a1, a2, a3, a4, g0, g1, g2, g3, g4⟩ := HQ.out W hW; go_simp; (try with_reducible rfl); done)); (try simp only [Act.put, List.setIfInBounds_toArray, List.set_cons_zero, List.set_cons_succ])
  refine PlanB.take (v := ?_) rfl rfl ?_ ?_; rotate_left; (focus (intro W hW; obtain ⟨a1, a2, a3, a4, g0, g1, g2, g3, g4⟩ := HQ.out W hW; go_simp; (try with_reducible rfl); done)); (try simp only [Act.put, List.setIfInBounds_toArray, List.set_cons_zero, List.set_cons_succ])
  refine PlanB.take (v := ?_) rfl rfl ?_ ?_; rotate_left; (focus (intro W hW; obtain ⟨a1, a2, a3, a4, g0, g1, g2, g3, g4⟩ := HQ.out W hW; go_simp; (try with_reducible rfl); done)); (try simp only [Act.put, List.setIfInBounds_toArray, List.set_cons_zero, List.set_cons_succ])
  refine PlanB.take (v := ?_) rfl rfl ?_ ?_; rotate_left; (focus (intro W hW; obtain ⟨a1, a2, a3, a4, g0, g1, g2, g3, g4⟩ := HQ.out W hW; go_simp; (try with_reducible rfl); done)); (try simp only [Act.put, List.setIfInBounds_toArray, List.set_cons_zero, List.set_cons_succ])
  refine PlanB.take (v := ?_) rfl rfl ?_ ?_; rotate_left; (focus (intro W hW; obtain ⟨a1, a2, a3, a4, g0, g1, g2, g3, g4⟩ := HQ.out W hW; go_simp; (try with_reducible rfl); done)); (try simp only [Act.put, List.setIfInBounds_toArray, List.set_cons_zero, List.set_cons_succ])
  refine PlanB.take (v := ?_) rfl rfl ?_ ?_; rotate_left; (focus (intro W hW; obtain ⟨a1, a2, a3, a4, g0, g1, g2, g3, g4⟩ := HQ.out W hW; go_simp; (try with_reducible rfl); done)); (try simp only [Act.put, List.setIfInBounds_toArray, List.set_cons_zero, List.set_cons_succ])
  refine PlanB.take (v := ?_) rfl rfl ?_ ?_; rotate_left; (focus (intro W hW; obtain ⟨a1, a2, a3, a4, g0, g1, g2, g3, g4⟩ := HQ.out W hW; go_simp; (try with_reducible rfl); done)); (try simp only [Act.put, List.setIfInBounds_toArray, List.set_cons_zero, List.set_cons_succ])
  refine PlanB.take (v := ?_) rfl rfl ?_ ?_; rotate_left; (focus (intro W hW; obtain ⟨a1, a2, a3, a4, g0, g1, g2, g3, g4⟩ := HQ.out W hW; go_simp; (try with_reducible rfl); done)); (try simp only [Act.put, List.setIfInBounds_toArray, List.set_cons_zero, List.set_cons_succ])
  refine PlanB.take (v := .bool false) rfl rfl ?_ ?_; (focus (intro W hW; obtain ⟨a1, a2, a3, a4, g0, g1, g2, g3, g4⟩ := HQ.out W hW; go_simp; (try with_reducible rfl); done)); (try simp only [Act.put, List.setIfInBounds_toArray, List.set_cons_zero, List.set_cons_succ])
  refine PlanB.take (v := .bool false) rfl rfl ?_ ?_; (focus (intro W hW; obtain ⟨a1, a2, a3, a4, g0, g1, g2, g3, g4⟩ := HQ.out W hW; go_simp; (try with_reducible rfl); done)); (try simp only [Act.put, List.setIfInBounds_toArray, List.set_cons_zero, List.set_cons_succ])
  refine PlanB.take (v := ?_) rfl rfl ?_ ?_; rotate_left; (focus (intro W hW; obtain ⟨a1, a2, a3, a4, g0, g1, g2, g3, g4⟩ := HQ.out W hW; go_simp; (try with_reducible rfl); done)); (try simp only [Act.put, List.setIfInBounds_toArray, List.set_cons_zero, List.set_cons_succ])
  simp only [PlanB]
  clear HQ
  go_wp2_with fail
  have hv0 : v < 9223372036854775808 := HV.out.2
  have HGT := Lib.hid hgt
  rcases mo with _ | ⟨rp, ov⟩
  case none => exact absurd (H.out.none_ rfl) HZ.out
  obtain ⟨wd, hwd⟩ : ∃ W, W = w4.drew := ⟨_, rfl⟩
  have hb_wd : Below wb.heap.size wb wd := by rw [hwd]; exact hb_w4.drew
  have hbw : Below w.heap.size w wd := HB0.out.trans (hb_wd.mono HB0.out.size)
  have hgd := H.out.new hbw
  obtain ⟨-, hrm, hrg, hog⟩ := hgd.some_ _ rfl
  have htd := HTS.out.mv (Mv.of_new hbw (fun _ => False)) H.out.low.2 (fun _ _ h => h)
  have hBd := HBB.out.below hb_wd HBB.out.size
  have hsd := hgd.wh.cell 2 _ rfl
  refine wp_region_planT (fun W => W.cell? ⟨g, 2, none⟩ = some (.pointer (some ⟨rp, 0, none⟩)) ∧ W.cell? ⟨ba, 3, none⟩ = some (.int .i64 v) ∧ W.cell? ⟨ba, 4, none⟩ = some (.slice A ts.length c)) (.take 0 (.take 1 (.take 2 (.take 3 (.take 4 (.take 5 (.take 6 (.take 7 (.step 8 (.take 9 (.take 10 (.take 11 (.take 12 (.take 13 .done)))))))))))))) (by kernel_rfl) (by kernel_rfl) (fun _ _ d _ _ h => by cases d <;> exact h) (by rw [← hwd]; exact ⟨hsd, hBd.cell 3 _ rfl, hBd.cell 4 _ rfl⟩) ?_
  rw [← hwd]
  clear hwd hsd
  have HRM := Lib.hid hrm
  have HTD := Lib.hid htd
  have HGD := Lib.hid hgd
  have HBD := Lib.hid hBd
  have HRG := Lib.hid hrg
  have HOG := Lib.hid hog
  have HBW := Lib.hid hbw
  clear hrm htd hgd hBd hrg hog hbw hgt
  (refine PlanT.takeI (v := ?_) rfl rfl ?_ ?_; rotate_left; (focus (intro W hW; obtain ⟨k0, k1, k2⟩ := hW; go_simp; (try with_reducible rfl); done)); (try simp only [Act.put, List.setIfInBounds_toArray, List.set_cons_zero, List.set_cons_succ]))
  (refine PlanT.takeI (v := ?_) rfl rfl ?_ ?_; rotate_left; (focus (intro W hW; obtain ⟨k0, k1, k2⟩ := hW; go_simp; (try with_reducible rfl); done)); (try simp only [Act.put, List.setIfInBounds_toArray, List.set_cons_zero, List.set_cons_succ]))
  (refine PlanT.takeI (v := ?_) rfl rfl ?_ ?_; rotate_left; (focus (intro W hW; obtain ⟨k0, k1, k2⟩ := hW; go_simp; (try with_reducible rfl); done)); (try simp only [Act.put, List.setIfInBounds_toArray, List.set_cons_zero, List.set_cons_succ]))
  (refine PlanT.takeI (v := ?_) rfl rfl ?_ ?_; rotate_left; (focus (intro W hW; obtain ⟨k0, k1, k2⟩ := hW; go_simp; (try with_reducible rfl); done)); (try simp only [Act.put, List.setIfInBounds_toArray, List.set_cons_zero, List.set_cons_succ]))
  (refine PlanT.takeI (v := ?_) rfl rfl ?_ ?_; rotate_left; (focus (intro W hW; obtain ⟨k0, k1, k2⟩ := hW; go_simp; (try with_reducible rfl); done)); (try simp only [Act.put, List.setIfInBounds_toArray, List.set_cons_zero, List.set_cons_succ]))
  (refine PlanT.takeI (v := ?_) rfl rfl ?_ ?_; rotate_left; (focus (intro W hW; obtain ⟨k0, k1, k2⟩ := hW; go_simp; (try with_reducible rfl); done)); (try simp only [Act.put, List.setIfInBounds_toArray, List.set_cons_zero, List.set_cons_succ]))
  (refine PlanT.takeI (v := ?_) rfl rfl ?_ ?_; rotate_left; (focus (intro W hW; obtain ⟨k0, k1, k2⟩ := hW; go_simp; (try with_reducible rfl); done)); (try simp only [Act.put, List.setIfInBounds_toArray, List.set_cons_zero, List.set_cons_succ]))
  (refine PlanT.takeI (v := ?_) rfl rfl ?_ ?_; rotate_left; (focus (intro W hW; obtain ⟨k0, k1, k2⟩ := hW; go_simp; (try with_reducible rfl); done)); (try simp only [Act.put, List.setIfInBounds_toArray, List.set_cons_zero, List.set_cons_succ]))
  refine wpOp_stepT rfl rfl (fun Kk hKk => ?_)
  go_simp
  go_at_call 19
  refine (rmjudge_any base rp ov n r.mks v ts (.slice A ts.length c) wd HRM.out HTD.out HF.out hv0 HN.out).mono ?_
  rintro o9 w9 ⟨A9, c9, rfl, ho9, ov', hwent⟩
  have hba9 : ¬ RmD rp ov ba := fun hd => by
    have e1 := HBA.out
    have e2 := (H.out.dom ba (.inr ⟨_, rfl, hd⟩)).2
    omega
  have hB9 := hwent.moved.whole HBD.out hba9
  obtain ⟨hG9, hD9, hM9⟩ := HGD.out.went hwent
  have hg9 := hG9.wh
  refine hKk.out _ _ ⟨hg9.cell 2 _ rfl, hB9.cell 3 _ rfl, hB9.cell 4 _ rfl⟩ ?_
  clear hKk Kk hba9 hwent
  have HB9 := Lib.hid hB9
  have HG9 := Lib.hid hG9
  have HD9 := Lib.hid hD9
  have HM9 := Lib.hid hM9
  have HO9 := Lib.hid ho9
  clear hB9 hG9 hD9 hM9 ho9 hg9
  obtain ⟨E, hE⟩ : ∃ E, E = jerr r.mks v (ts.map (·.t)) := ⟨_, rfl⟩
  obtain ⟨O, hO⟩ : ∃ O, O = jout r.mks v (ts.map (·.t)) := ⟨_, rfl⟩
  obtain ⟨N, hN⟩ : ∃ N, N = jnext r.mks v (ts.map (·.t)) := ⟨_, rfl⟩
  rw [← hO] at HO9
  rw [← hN] at HG9
  rw [← hE, ← hO]
  have HEE := Lib.hid hE
  have HOO := Lib.hid hO
  have HNN := Lib.hid hN
  clear hE hO hN
  (try simp only [Act.put, List.setIfInBounds_toArray, List.set_cons_zero, List.set_cons_succ])
  (refine PlanT.takeI (v := ?_) rfl rfl ?_ ?_; rotate_left; (focus (intro W hW; obtain ⟨k0, k1, k2⟩ := hW; go_simp; (try with_reducible rfl); done)); (try simp only [Act.put, List.setIfInBounds_toArray, List.set_cons_zero, List.set_cons_succ]))
  (refine PlanT.takeI (v := ?_) rfl rfl ?_ ?_; rotate_left; (focus (intro W hW; obtain ⟨k0, k1, k2⟩ := hW; go_simp; (try with_reducible rfl); done)); (try simp only [Act.put, List.setIfInBounds_toArray, List.set_cons_zero, List.set_cons_succ]))
  (refine PlanT.takeI (v := ?_) rfl rfl ?_ ?_; rotate_left; (focus (intro W hW; obtain ⟨k0, k1, k2⟩ := hW; go_simp; (try with_reducible rfl); done)); (try simp only [Act.put, List.setIfInBounds_toArray, List.set_cons_zero, List.set_cons_succ]))
  (refine PlanT.takeI (v := ?_) rfl rfl ?_ ?_; rotate_left; (focus (intro W hW; obtain ⟨k0, k1, k2⟩ := hW; go_simp; (try with_reducible rfl); done)); (try simp only [Act.put, List.setIfInBounds_toArray, List.set_cons_zero, List.set_cons_succ]))
  (refine PlanT.takeI (v := ?_) rfl rfl ?_ ?_; rotate_left; (focus (intro W hW; obtain ⟨k0, k1, k2⟩ := hW; go_simp; (try with_reducible rfl); done)); (try simp only [Act.put, List.setIfInBounds_toArray, List.set_cons_zero, List.set_cons_succ]))
  simp only [PlanT]
  by_cases hE0 : E = 0
  case neg =>
    have hEb : (E == 0) = false := by simpa using hE0
    have hJe := HJ.out.trans (Rf.judge_bad rfl HZ.out HGT.out rfl (by rw [← HEE.out]; exact hE0))
    have hNm : N = r.mks := by rw [HNN.out]; exact jnext_bad (by rw [← HEE.out]; exact hE0)
    rw [← HEE.out] at hJe
    subst hJe
    subst hNm
    have hfin : GmPost w base g (some (rp, ov)) n ([], E, r) X (.returned (.tuple #[.slice none 0 0, .int .i64 E])) w9 := ⟨none, 0, rfl, some (rp, ov'), _, HG9.out, fun i hi => (HD9.out i hi).elim .inl (fun h => .inr (Nat.le_trans HBW.out.size h)), (Mv.of_new HBW.out _).trans HM9.out (fun _ _ h => h), Rd.nil _ _⟩
    have HFIN := Lib.hid hfin
    clear hfin
    go_wp2_with fail
    go_ret2
    exact HFIN.out
  case pos =>
    have HE := Lib.hid (HEE.out.symm.trans hE0)
    subst hE0
    obtain ⟨w12, hw12⟩ : ∃ W, W = ((w9.setCell ⟨g, 1, none⟩ (.int .i64 v)).setCell ⟨g, 3, none⟩ (.bool true)).setCell ⟨g, 4, none⟩ (.slice A9 O.length c9) := ⟨_, rfl⟩
    have hm12 : Mv (fun i => i = g) w9 w12 := by rw [hw12]; exact (((Mv.refl (fun i => i = g) w9).setCell (p := ⟨g, 1, none⟩) (fun _ => rfl) _).setCell (p := ⟨g, 3, none⟩) (fun _ => rfl) _).setCell (p := ⟨g, 4, none⟩) (fun _ => rfl) _
    have hW12 : Whole w12 g 30 [.int .i64 r.epoch, .int .i64 v, Mo.v (some (rp, ov')), .bool true, .slice A9 O.length c9] := by rw [hw12]; exact ((HG9.out.wh.put 1 _).put 3 _).put 4 _
    have hgb9 : ba ≠ g := fun e => by
      have e1 := HBA.out
      have e2 := H.out.wh.size
      omega
    have hB12 := hm12.whole HB9.out hgb9
    have hap := HG9.out.apart HO9.out HGD.out.wh.size HRM.out.size (fun i hi => Nat.lt_of_lt_of_le (HXX.out i hi) HBW.out.size)
    have hG12 : GmAt w12 base g (some (rp, ov')) (n + 96) ⟨r.epoch, v, N, true, O⟩ (.slice A9 O.length c9) X := HG9.out.stored hm12 hW12 hap rfl rfl
    have hM12 : Mv (GmD g (some (rp, ov))) w w12 := ((Mv.of_new HBW.out _).trans HM9.out (fun _ _ h => h)).trans (hm12.mono (fun _ _ e => .inl e)) (fun _ _ h => h)
    have hD12 : ∀ i, GmD g (some (rp, ov')) i → GmD g (some (rp, ov)) i ∨ w.heap.size ≤ i := fun i hi => (HD9.out i hi).elim .inl (fun h => .inr (Nat.le_trans HBW.out.size h))
    obtain ⟨-, hrm12, hrg12, hog12⟩ := hG12.some_ _ rfl
    obtain ⟨Ar, cr, Lr, hwr, -⟩ := hrm12.blk
    have HC12 := Lib.hid (fun W (hW : Below w12.heap.size w12 W) => show W.cell? ⟨ba, 3, none⟩ = some (.int .i64 v) ∧ W.cell? ⟨g, 2, none⟩ = some (.pointer (some ⟨rp, 0, none⟩)) ∧ W.cell? ⟨rp, 1, none⟩ = some (.int .i64 N.floor) from ⟨(hB12.below hW hB12.size).cell 3 _ rfl, (hW12.below hW hW12.size).cell 2 _ rfl, (hwr.below hW hwr.size).cell 1 _ rfl⟩)
    have hwrap : IntKind.i64.wrap (v - 100) = v - 100 := by
      have e1 := HRM.out.ok.low
      have e2 := HE.out
      unfold jerr at e2
      rw [IntKind.wrap_i64]
      split at e2
      · omega
      · omega
    have f1 := HG9.out.wh.frozen 1
    have f2 := HG9.out.wh.frozen 3
    have f3 := HG9.out.wh.frozen 4
    have b3 := HB9.out.cell 3 _ rfl
    have q1 := HG9.out.wh.cell 1 _ rfl
    have q3 := HG9.out.wh.cell 3 _ rfl
    have q4 := HG9.out.wh.cell 4 _ rfl
    have HG12 := Lib.hid hG12
    have HM12 := Lib.hid hM12
    have HD12 := Lib.hid hD12
    have HB12 := Lib.hid hB12
    clear hm12 hW12 hB12 hap hG12 hM12 hD12 hrm12 hrg12 hog12 hwr
    go_wp2_with fail
    rw [← hw12]
    clear hw12 f1 f2 f3 b3 q1 q3 q4
    by_cases hgt : N.floor < v - 100
    case pos =>
      have hgb : decide (N.floor < v - 100) = true := decide_eq_true hgt
      obtain ⟨w15, hwd15⟩ : ∃ W, W = w12.drew := ⟨_, rfl⟩
      have hb15 : Below w12.heap.size w12 w15 := by rw [hwd15]; exact (Below.refl _ _).drew
      refine wp_region_planB [(true, 0), (true, 1), (true, 2), (true, 3), (true, 4), (true, 5), (true, 6), (true, 7), (true, 8), (true, 9), (true, 10)] (by kernel_rfl) (by kernel_rfl) (fun _ _ d _ _ h => by cases d <;> exact h) ?_
      rw [← hwd15]
      clear hwd15
      have HQ := Lib.hid (fun W (hW : Below w15.heap.size w15 W) => HC12.out W (hb15.trans (hW.mono hb15.size)))
      refine PlanB.take (v := ?_) rfl rfl ?_ ?_; rotate_left; (focus (intro W hW; obtain ⟨k0, k1, k2⟩ := HQ.out W hW; go_simp; (try with_reducible rfl); done)); (try simp only [Act.put, List.setIfInBounds_toArray, List.set_cons_zero, List.set_cons_succ])
      refine PlanB.take (v := ?_) rfl rfl ?_ ?_; rotate_left; (focus (intro W hW; obtain ⟨k0, k1, k2⟩ := HQ.out W hW; go_simp; (try with_reducible rfl); done)); (try simp only [Act.put, List.setIfInBounds_toArray, List.set_cons_zero, List.set_cons_succ])
      refine PlanB.take (v := .int .i64 (v - 100)) rfl rfl ?_ ?_; (focus (intro W hW; obtain ⟨k0, k1, k2⟩ := HQ.out W hW; go_simp; (try with_reducible rfl); done)); (try simp only [Act.put, List.setIfInBounds_toArray, List.set_cons_zero, List.set_cons_succ])
      refine PlanB.take (v := ?_) rfl rfl ?_ ?_; rotate_left; (focus (intro W hW; obtain ⟨k0, k1, k2⟩ := HQ.out W hW; go_simp; (try with_reducible rfl); done)); (try simp only [Act.put, List.setIfInBounds_toArray, List.set_cons_zero, List.set_cons_succ])
      refine PlanB.take (v := ?_) rfl rfl ?_ ?_; rotate_left; (focus (intro W hW; obtain ⟨k0, k1, k2⟩ := HQ.out W hW; go_simp; (try with_reducible rfl); done)); (try simp only [Act.put, List.setIfInBounds_toArray, List.set_cons_zero, List.set_cons_succ])
      refine PlanB.take (v := ?_) rfl rfl ?_ ?_; rotate_left; (focus (intro W hW; obtain ⟨k0, k1, k2⟩ := HQ.out W hW; go_simp; (try with_reducible rfl); done)); (try simp only [Act.put, List.setIfInBounds_toArray, List.set_cons_zero, List.set_cons_succ])
      refine PlanB.take (v := ?_) rfl rfl ?_ ?_; rotate_left; (focus (intro W hW; obtain ⟨k0, k1, k2⟩ := HQ.out W hW; go_simp; (try with_reducible rfl); done)); (try simp only [Act.put, List.setIfInBounds_toArray, List.set_cons_zero, List.set_cons_succ])
      refine PlanB.take (v := ?_) rfl rfl ?_ ?_; rotate_left; (focus (intro W hW; obtain ⟨k0, k1, k2⟩ := HQ.out W hW; go_simp; (try with_reducible rfl); done)); (try simp only [Act.put, List.setIfInBounds_toArray, List.set_cons_zero, List.set_cons_succ])
      refine PlanB.take (v := ?_) rfl rfl ?_ ?_; rotate_left; (focus (intro W hW; obtain ⟨k0, k1, k2⟩ := HQ.out W hW; go_simp; (try with_reducible rfl); done)); (try simp only [Act.put, List.setIfInBounds_toArray, List.set_cons_zero, List.set_cons_succ])
      refine PlanB.take (v := ?_) rfl rfl ?_ ?_; rotate_left; (focus (intro W hW; obtain ⟨k0, k1, k2⟩ := HQ.out W hW; go_simp; (try with_reducible rfl); done)); (try simp only [Act.put, List.setIfInBounds_toArray, List.set_cons_zero, List.set_cons_succ])
      refine PlanB.take (v := .bool true) rfl rfl ?_ ?_; (focus (intro W hW; obtain ⟨k0, k1, k2⟩ := HQ.out W hW; go_simp; (try with_reducible rfl); done)); (try simp only [Act.put, List.setIfInBounds_toArray, List.set_cons_zero, List.set_cons_succ])
      simp only [PlanB]
      clear HQ
      go_wp2_with fail
      obtain ⟨w16, hwd16⟩ : ∃ W, W = w15.drew := ⟨_, rfl⟩
      have hb16 : Below w12.heap.size w12 w16 := by rw [hwd16]; exact hb15.drew
      have hG16 := HG12.out.new hb16
      obtain ⟨-, hrm16, -, -⟩ := hG16.some_ _ rfl
      have hB16 := HB12.out.below hb16 HB12.out.size
      have hx := HC12.out w16 hb16
      refine wp_region_planT (fun W => W.cell? ⟨ba, 3, none⟩ = some (.int .i64 v) ∧ W.cell? ⟨g, 2, none⟩ = some (.pointer (some ⟨rp, 0, none⟩)) ∧ True) (.take 0 (.take 1 (.take 2 (.take 3 (.take 4 (.take 5 (.take 6 (.step 7 .done)))))))) (by kernel_rfl) (by kernel_rfl) (fun _ _ d _ _ h => by cases d <;> exact h) (by rw [← hwd16]; exact ⟨hx.1, hx.2.1, trivial⟩) ?_
      rw [← hwd16]
      clear hwd16 hx
      have HG16 := Lib.hid hG16
      have HR16 := Lib.hid hrm16
      have HB16 := Lib.hid hB16
      clear hG16 hrm16 hB16
      (refine PlanT.takeI (v := ?_) rfl rfl ?_ ?_; rotate_left; (focus (intro W hW; obtain ⟨k0, k1, k2⟩ := hW; go_simp; (try with_reducible rfl); done)); (try simp only [Act.put, List.setIfInBounds_toArray, List.set_cons_zero, List.set_cons_succ]))
      (refine PlanT.takeI (v := ?_) rfl rfl ?_ ?_; rotate_left; (focus (intro W hW; obtain ⟨k0, k1, k2⟩ := hW; go_simp; (try with_reducible rfl); done)); (try simp only [Act.put, List.setIfInBounds_toArray, List.set_cons_zero, List.set_cons_succ]))
      (refine PlanT.takeI (v := ?_) rfl rfl ?_ ?_; rotate_left; (focus (intro W hW; obtain ⟨k0, k1, k2⟩ := hW; go_simp; (try with_reducible rfl); done)); (try simp only [Act.put, List.setIfInBounds_toArray, List.set_cons_zero, List.set_cons_succ]))
      (refine PlanT.takeI (v := ?_) rfl rfl ?_ ?_; rotate_left; (focus (intro W hW; obtain ⟨k0, k1, k2⟩ := hW; go_simp; (try with_reducible rfl); done)); (try simp only [Act.put, List.setIfInBounds_toArray, List.set_cons_zero, List.set_cons_succ]))
      (refine PlanT.takeI (v := ?_) rfl rfl ?_ ?_; rotate_left; (focus (intro W hW; obtain ⟨k0, k1, k2⟩ := hW; go_simp; (try with_reducible rfl); done)); (try simp only [Act.put, List.setIfInBounds_toArray, List.set_cons_zero, List.set_cons_succ]))
      (refine PlanT.takeI (v := ?_) rfl rfl ?_ ?_; rotate_left; (focus (intro W hW; obtain ⟨k0, k1, k2⟩ := hW; go_simp; (try with_reducible rfl); done)); (try simp only [Act.put, List.setIfInBounds_toArray, List.set_cons_zero, List.set_cons_succ]))
      (refine PlanT.takeI (v := .int .i64 (v - 100)) rfl rfl ?_ ?_; (focus (intro W hW; obtain ⟨k0, k1, k2⟩ := hW; go_simp; (try with_reducible rfl); done)); (try simp only [Act.put, List.setIfInBounds_toArray, List.set_cons_zero, List.set_cons_succ]))
      refine wpOp_stepT rfl rfl (fun Kk hKk => ?_)
      go_simp
      go_at_call 20
      refine (rmforget_any base rp ov' (n + 96) N (v - 100) (by omega) w16 HR16.out).mono ?_
      rintro o17 w17 ⟨rfl, hwent⟩
      have hba17 : ¬ RmD rp ov' ba := fun hd => by
        have e1 := HBA.out
        have e2 := HBB.out.size
        have e3 := hb_wd.size
        rcases HD9.out ba (.inr ⟨_, rfl, hd⟩) with e4 | e4
        · have := (H.out.dom ba e4).2
          omega
        · omega
      have hB17 := hwent.moved.whole HB16.out hba17
      obtain ⟨hG17, hD17, hM17⟩ := HG16.out.went hwent
      have HG17 := Lib.hid hG17
      have HD17 := Lib.hid hD17
      have HM17 := Lib.hid hM17
      refine hKk.out _ _ ⟨hB17.cell 3 _ rfl, hG17.wh.cell 2 _ rfl, trivial⟩ ?_
      clear hKk Kk hwent hba17 hB17 hG17 hD17 hM17
      (try simp only [Act.put, List.setIfInBounds_toArray, List.set_cons_zero, List.set_cons_succ])
      simp only [PlanT]
      have hJe := HJ.out.trans (Rf.judge_new rfl HZ.out HGT.out rfl HE.out)
      rw [← HOO.out, ← HNN.out] at hJe
      subst hJe
      have hfin : GmPost w base g (some (rp, ov)) n (O, 0, ⟨r.epoch, v, fnext N (v - 100), true, O⟩) X (.returned (.tuple #[.slice A9 O.length c9, .int .i64 0])) w17 := ⟨A9, c9, rfl, some (rp, ov'), _, HG17.out, fun i hi => (HD17.out i hi).elim (HD12.out i) (fun h => .inr (Nat.le_trans (Nat.le_trans HM12.out.size hb16.size) h)), (HM12.out.trans (Mv.of_new hb16 _) (fun _ _ h => h)).trans HM17.out (fun b hb hd => (HD12.out b hd).elim id (fun h => absurd h (Nat.not_le.2 hb))), HG17.out.tl.rd⟩
      have HFIN := Lib.hid hfin
      clear hfin
      go_wp2_with fail
      go_ret2
      exact HFIN.out
    case neg =>
      have hgb : decide (N.floor < v - 100) = false := decide_eq_false hgt
      obtain ⟨w15, hwd15⟩ : ∃ W, W = w12.drew := ⟨_, rfl⟩
      have hb15 : Below w12.heap.size w12 w15 := by rw [hwd15]; exact (Below.refl _ _).drew
      refine wp_region_planB [(true, 0), (true, 1), (true, 2), (true, 3), (true, 4), (true, 5), (true, 6), (true, 7), (true, 8), (true, 9), (true, 10)] (by kernel_rfl) (by kernel_rfl) (fun _ _ d _ _ h => by cases d <;> exact h) ?_
      rw [← hwd15]
      clear hwd15
      have HQ := Lib.hid (fun W (hW : Below w15.heap.size w15 W) => HC12.out W (hb15.trans (hW.mono hb15.size)))
      refine PlanB.take (v := ?_) rfl rfl ?_ ?_; rotate_left; (focus (intro W hW; obtain ⟨k0, k1, k2⟩ := HQ.out W hW; go_simp; (try with_reducible rfl); done)); (try simp only [Act.put, List.setIfInBounds_toArray, List.set_cons_zero, List.set_cons_succ])
      refine PlanB.take (v := ?_) rfl rfl ?_ ?_; rotate_left; (focus (intro W hW; obtain ⟨k0, k1, k2⟩ := HQ.out W hW; go_simp; (try with_reducible rfl); done)); (try simp only [Act.put, List.setIfInBounds_toArray, List.set_cons_zero, List.set_cons_succ])
      refine PlanB.take (v := .int .i64 (v - 100)) rfl rfl ?_ ?_; (focus (intro W hW; obtain ⟨k0, k1, k2⟩ := HQ.out W hW; go_simp; (try with_reducible rfl); done)); (try simp only [Act.put, List.setIfInBounds_toArray, List.set_cons_zero, List.set_cons_succ])
      refine PlanB.take (v := ?_) rfl rfl ?_ ?_; rotate_left; (focus (intro W hW; obtain ⟨k0, k1, k2⟩ := HQ.out W hW; go_simp; (try with_reducible rfl); done)); (try simp only [Act.put, List.setIfInBounds_toArray, List.set_cons_zero, List.set_cons_succ])
      refine PlanB.take (v := ?_) rfl rfl ?_ ?_; rotate_left; (focus (intro W hW; obtain ⟨k0, k1, k2⟩ := HQ.out W hW; go_simp; (try with_reducible rfl); done)); (try simp only [Act.put, List.setIfInBounds_toArray, List.set_cons_zero, List.set_cons_succ])
      refine PlanB.take (v := ?_) rfl rfl ?_ ?_; rotate_left; (focus (intro W hW; obtain ⟨k0, k1, k2⟩ := HQ.out W hW; go_simp; (try with_reducible rfl); done)); (try simp only [Act.put, List.setIfInBounds_toArray, List.set_cons_zero, List.set_cons_succ])
      refine PlanB.take (v := ?_) rfl rfl ?_ ?_; rotate_left; (focus (intro W hW; obtain ⟨k0, k1, k2⟩ := HQ.out W hW; go_simp; (try with_reducible rfl); done)); (try simp only [Act.put, List.setIfInBounds_toArray, List.set_cons_zero, List.set_cons_succ])
      refine PlanB.take (v := ?_) rfl rfl ?_ ?_; rotate_left; (focus (intro W hW; obtain ⟨k0, k1, k2⟩ := HQ.out W hW; go_simp; (try with_reducible rfl); done)); (try simp only [Act.put, List.setIfInBounds_toArray, List.set_cons_zero, List.set_cons_succ])
      refine PlanB.take (v := ?_) rfl rfl ?_ ?_; rotate_left; (focus (intro W hW; obtain ⟨k0, k1, k2⟩ := HQ.out W hW; go_simp; (try with_reducible rfl); done)); (try simp only [Act.put, List.setIfInBounds_toArray, List.set_cons_zero, List.set_cons_succ])
      refine PlanB.take (v := ?_) rfl rfl ?_ ?_; rotate_left; (focus (intro W hW; obtain ⟨k0, k1, k2⟩ := HQ.out W hW; go_simp; (try with_reducible rfl); done)); (try simp only [Act.put, List.setIfInBounds_toArray, List.set_cons_zero, List.set_cons_succ])
      refine PlanB.take (v := .bool false) rfl rfl ?_ ?_; (focus (intro W hW; obtain ⟨k0, k1, k2⟩ := HQ.out W hW; go_simp; (try with_reducible rfl); done)); (try simp only [Act.put, List.setIfInBounds_toArray, List.set_cons_zero, List.set_cons_succ])
      simp only [PlanB]
      clear HQ
      have hJe := HJ.out.trans (Rf.judge_new rfl HZ.out HGT.out rfl HE.out)
      rw [← HOO.out, ← HNN.out, fnext_low (by omega)] at hJe
      subst hJe
      have hfin : GmPost w base g (some (rp, ov)) n (O, 0, ⟨r.epoch, v, N, true, O⟩) X (.returned (.tuple #[.slice A9 O.length c9, .int .i64 0])) w15 := ⟨A9, c9, rfl, some (rp, ov'), _, HG12.out.new hb15, HD12.out, HM12.out.trans (Mv.of_new hb15 _) (fun _ _ h => h), (HG12.out.new hb15).tl.rd⟩
      have HFIN := Lib.hid hfin
      clear hfin
      go_wp2_with fail
      go_ret2
      exact HFIN.out
end Go.Proofs.YtgppgecglkellaaGreat
