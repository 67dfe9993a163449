import PyProof.Rows.All
import Wide.All
import OpenK.AllK
import Wide.FinOn
import HandS.Base
import HandS.Call
import HandS.List
import HandS.Comp
import HandS.Ends
import HandS.Dict
import HandS.Iter
import HandS.Text
import HandS.Words
import HandS.EndBits
import PyProof.ReprRoads
import PyProof.NeKinds
import HandS.ForMost
import HandS.IsInst
import HandS.TupAny
import HandS.TupMul
import HandS.Style
import HandS.More
import HandS.Wide
import HandS.Walk
import HandS.Codes
import HandS.Steps
import PySem.Challenge.RW_copyover_k01_copies_and_scripts_judged
set_option Elab.async false
set_option linter.all false
/-! part B0 -/
set_option maxRecDepth 100000
set_option maxHeartbeats 4000000
namespace Cv
open PySem PySem.Spec PyProof.Rows L2

/-! ### what may change -/
/-- all that stood stands, but what is at j -/
def Eff (j : Addr) (H H' : Hp) : Prop := ∀ b o, b ≠ j → H b = some o → H' b = some o
theorem Eff.refl (j : Addr) (H : Hp) : Eff j H H := fun _ _ _ e => e
theorem Eff.trans {j : Addr} {H H1 H2 : Hp} (a : Eff j H H1) (b : Eff j H1 H2) : Eff j H H2 := fun x o n e => b x o n (a x o n e)
theorem Eff.same {j : Addr} {H H' : Hp} (a : Same H H') : Eff j H H' := fun x o _ e => a x o e
theorem Eff.atj {j : Addr} {H H' : Hp} {o : HO} (a : Eff j H H') : Eff j H (upd H' j o) := fun x u n e => (upd_ne n).trans (a x u n e)
theorem Eff.new {j p : Addr} {H H' : Hp} {o : HO} (a : Eff j H H') (h : H p = none) : Eff j H (upd H' p o) := fun x u n e =>
  (upd_ne (ne_of_none e h)).trans (a x u n e)
theorem Eff.free {j p : Addr} {H H' : Hp} (a : Eff j H H') (n : p ≠ j) (h : H' p = none) : H p = none := by
  cases q : H p with
  | none => rfl
  | some o =>
    have z := a p o n q
    rw [h] at z
    cases z
theorem same_new {H : Hp} {p : Addr} {o : HO} (h : H p = none) : Same H (upd H p o) := fun b u e => (upd_ne (ne_of_none e h)).trans e
theorem same_up {H H' : Hp} {p : Addr} {o : HO} (a : Same H H') (h : H p = none) : Same H (upd H' p o) := fun b u e =>
  (upd_ne (ne_of_none e h)).trans (a b u e)
theorem same_free {H H' : Hp} {p : Addr} (a : Same H H') (h : H' p = none) : H p = none := a.free h

/-! ### data of any depth, that does not reach j -/
def keyD : Key → PyData
  | .inl i => .int i
  | .inr x => .str x
mutual
inductive Dx (K : PySem.W.Frag) (H : Hp) (j : Addr) : V → PyData → Prop
  | non : Dx K H j .non .none
  | bl (b : Bool) : Dx K H j (.bl b) (.bool b)
  | int (i : Int) : Dx K H j (.int i) (.int i)
  | str (x : Str) : Dx K H j (.str x) (.str x)
  | lst {a : Addr} {xs : List V} {ds : List PyData} : a ≠ j → SqL K H a xs → DxAll K H j xs ds → Dx K H j (.ref a) (.list ds)
  | tup {a : Addr} {xs : List V} {ds : List PyData} : a ≠ j → SqT K H a xs → DxAll K H j xs ds → Dx K H j (.ref a) (.tuple ds)
  | dic {a : Addr} {kvs : List (Key × V)} {es : List (PyData × PyData)} : a ≠ j → H a = some (.dK kvs) → DxKv K H j kvs es → Dx K H j (.ref a) (.dict es)
inductive DxAll (K : PySem.W.Frag) (H : Hp) (j : Addr) : List V → List PyData → Prop
  | nil : DxAll K H j [] []
  | cons {v : V} {vs : List V} {d : PyData} {ds : List PyData} : Dx K H j v d → DxAll K H j vs ds → DxAll K H j (v :: vs) (d :: ds)
inductive DxKv (K : PySem.W.Frag) (H : Hp) (j : Addr) : List (Key × V) → List (PyData × PyData) → Prop
  | nil : DxKv K H j [] []
  | cons {k : Key} {v : V} {r : List (Key × V)} {d : PyData} {es : List (PyData × PyData)} : Dx K H j v d → DxKv K H j r es → DxKv K H j ((k, v) :: r) ((keyD k, d) :: es)
end
theorem eff_rd {j a : Addr} {H H' : Hp} {u : HO} (e : Eff j H H') (n : a ≠ j) (h : Rd H a u) : Rd H' a u := by
  rcases h with h | ⟨o, h⟩
  · exact .inl (e a _ n h)
  · exact .inr ⟨o, e a _ n h⟩
theorem eff_l {K : PySem.W.Frag} {j a : Addr} {H H' : Hp} {xs : List V} (e : Eff j H H') (n : a ≠ j) (h : SqL K H a xs) : SqL K H' a xs := by
  rcases h with h | h
  · exact .inl (eff_rd e n h)
  · exact .inr h
theorem eff_t {K : PySem.W.Frag} {j a : Addr} {H H' : Hp} {xs : List V} (e : Eff j H H') (n : a ≠ j) (h : SqT K H a xs) : SqT K H' a xs := by
  rcases h with h | h
  · exact .inl (eff_rd e n h)
  · exact .inr h
section
variable {K : PySem.W.Frag} {H H' : Hp} {j : Addr}
mutual
theorem Dx.keep (e : Eff j H H') : ∀ (d : PyData) (v : V), Dx K H j v d → Dx K H' j v d
  | .none, _, h => by cases h; exact .non
  | .bool b, _, h => by cases h; exact .bl _
  | .int i, _, h => by cases h; exact .int _
  | .str x, _, h => by cases h; exact .str _
  | .list ds, _, h => by
    cases h with
    | lst n s a => exact .lst n (eff_l e n s) (DxAll.keep e ds _ a)
  | .tuple ds, _, h => by
    cases h with
    | tup n s a => exact .tup n (eff_t e n s) (DxAll.keep e ds _ a)
  | .dict es, _, h => by
    cases h with
    | dic n s a => exact .dic n (e _ _ n s) (DxKv.keep e es _ a)
theorem DxAll.keep (e : Eff j H H') : ∀ (ds : List PyData) (vs : List V), DxAll K H j vs ds → DxAll K H' j vs ds
  | [], _, h => by cases h; exact .nil
  | d :: ds, _, h => by
    cases h with
    | cons h1 h2 => exact .cons (Dx.keep e d _ h1) (DxAll.keep e ds _ h2)
theorem DxKv.keep (e : Eff j H H') : ∀ (es : List (PyData × PyData)) (kvs : List (Key × V)), DxKv K H j kvs es → DxKv K H' j kvs es
  | [], _, h => by cases h; exact .nil
  | (k, d) :: es, _, h => by
    cases h with
    | cons h1 h2 => exact .cons (Dx.keep e d _ h1) (DxKv.keep e es _ h2)
end
end

/-! ### what the library's own rules ask of such data -/
section
variable {X : Cx} {pins : List (Addr × Obj)} {σ : L2.St} {H : Hp} {s : Shared} {j : Addr}
theorem key_reads (h : Heap) {k : Key} {u : Value} (r : keyIs k u = true) : Reads h u (keyD k) [] := by
  rcases keyIs_shape r with ⟨i, t, rfl, rfl⟩ | ⟨x, t, rfl, rfl⟩
  · exact Reads.int i t
  · exact Reads.str x t
mutual
theorem Dx.reads (I : Inv X pins σ H s) : ∀ (d : PyData) (v : V) (u : Value), Dx X.K H j v d → RelV v u → ∃ as, Reads s.heap u d as
  | .none, _, _, h, r => by
    cases h; cases r
    exact ⟨_, Reads.none⟩
  | .bool b, _, _, h, r => by
    cases h; cases r
    exact ⟨_, Reads.bool b⟩
  | .int i, _, _, h, r => by
    cases h
    obtain ⟨t, rfl⟩ := r
    exact ⟨_, Reads.int i t⟩
  | .str x, _, _, h, r => by
    cases h
    obtain ⟨t, rfl⟩ := r
    exact ⟨_, Reads.str x t⟩
  | .list ds, _, _, h, r => by
    cases h with
    | lst _ hs ha =>
      cases r
      obtain ⟨its, rv, ⟨o, n, ho, hc, _, hd⟩, _⟩ := I.list hs
      obtain ⟨as, hr⟩ := DxAll.reads I ds _ its ha rv
      exact ⟨_, Reads.list ho hc hd hr⟩
  | .tuple ds, _, _, h, r => by
    cases h with
    | tup _ hs ha =>
      cases r
      obtain ⟨its, rv, ⟨o, ho, hc, n, hd⟩, _⟩ := I.tuple hs
      obtain ⟨as, hr⟩ := DxAll.reads I ds _ its ha rv
      exact ⟨_, Reads.tuple ho hc hd hr⟩
  | .dict es, _, _, h, r => by
    cases h with
    | dic _ hs ha =>
      cases r
      obtain ⟨_, _, vs, kv, o, en, ep, ho, hx, hd, _, hp, _⟩ := dk_of I.hok hs
      obtain ⟨as, bs, h1, h2⟩ := DxKv.reads I es _ vs _ ha kv hp
      exact ⟨_, Reads.dict ho hx.1 hd h1 h2⟩
theorem DxAll.reads (I : Inv X pins σ H s) : ∀ (ds : List PyData) (vs : List V) (us : List Value), DxAll X.K H j vs ds → Vals vs us → ∃ as, ReadsAll s.heap us ds as
  | [], _, _, h, r => by
    cases h; cases r
    exact ⟨_, ReadsAll.nil⟩
  | d :: ds, _, _, h, r => by
    cases h with
    | cons h1 h2 =>
      cases r with
      | cons r1 r2 =>
        obtain ⟨as, q1⟩ := Dx.reads I d _ _ h1 r1
        obtain ⟨bs, q2⟩ := DxAll.reads I ds _ _ h2 r2
        exact ⟨_, ReadsAll.cons q1 q2⟩
theorem DxKv.reads (I : Inv X pins σ H s) : ∀ (es : List (PyData × PyData)) (kvs : List (Key × V)) (vs : List (Key × Value)) (en : List DictEntry), DxKv X.K H j kvs es → KV kvs vs → Pairs (mixKind X.prog X.w) en vs →
    ∃ as bs, ReadsAll s.heap (en.map (·.key)) (es.map (·.1)) as ∧ ReadsAll s.heap (en.map (·.val)) (es.map (·.2)) bs
  | [], _, _, _, h, r, p => by
    cases h; cases r; cases p
    exact ⟨_, _, ReadsAll.nil, ReadsAll.nil⟩
  | (k, d) :: es, _, _, _, h, r, p => by
    cases h with
    | cons h1 h2 =>
      cases r with
      | cons r1 r2 =>
        cases p with
        | cons p1 p2 p3 =>
          obtain ⟨e1, r1⟩ := r1
          rw [← p2] at r1
          obtain ⟨as, q1⟩ := Dx.reads I d _ _ h1 r1
          obtain ⟨a2, b2, q2, q3⟩ := DxKv.reads I es _ _ _ h2 r2 p3
          have kr := key_reads s.heap (k := _) p1
          rw [← e1] at kr
          exact ⟨_, _, ReadsAll.cons kr q2, ReadsAll.cons q1 q3⟩
end
end

/-! ### its repr -/
section
variable {X : Cx} {pins : List (Addr × Obj)} {σ : L2.St} {H : Hp} {s : Shared} {j : Addr}
theorem kd_split {k : PyData × PyData} {kvs : List (PyData × PyData)} (h : PyData.showableKv (k :: kvs) = true) : k.1.showable = true ∧ k.2.showable = true ∧ PyData.showableKv kvs = true := by
  have h2 : (k.1.showable && k.2.showable && PyData.showableKv kvs) = true := by
    have h3 := h
    simp only [PyData.showableKv] at h3
    exact h3
  simp only [Bool.and_eq_true] at h2
  exact ⟨h2.1.1, h2.1.2, h2.2⟩
theorem key_repr {prog : Program} {w : World} (h : Heap) {k : Key} {u : Value} (r : keyIs k u = true) (hs : (keyD k).showable = true) (hz : (keyD k).shown.length ≤ sizeLine) (bs : List Addr) (n : Nat) : ReprK prog w bs h n u (keyD k).shown := by
  rcases keyIs_shape r with ⟨i, t, rfl, rfl⟩ | ⟨x, t, rfl, rfl⟩
  · have e : (keyD (.inl i)).shown = toString i := by simp only [keyD, PyData.shown]
    rw [e]
    exact .of_is (ReprIs.int t (by simpa [keyD, PyData.showable] using hs)) _ _ _
  · have e : (keyD (.inr x)).shown = reprText x := by simp only [keyD, PyData.shown]
    rw [e] at hz ⊢
    exact .of_is (ReprIs.str x t hz) _ _ _
theorem ent_more {prog : Program} {w : World} {h₀ : Heap} {as as' : List Addr} {d d' : Nat} (hsub : ∀ b ∈ as, b ∈ as') (hd : d ≤ d') : ∀ {l : List DictEntry} {ts : List Str}, ReprEntriesK prog w as h₀ d l ts → ReprEntriesK prog w as' h₀ d' l ts
  | _, _, .nil => .nil
  | _, _, .cons hk hv hl => .cons ((hk.more hsub).level_le hd) ((hv.more hsub).level_le hd) (ent_more hsub hd hl)
mutual
theorem Dx.repr {prog : Program} {w : World} (I : Inv X pins σ H s) : ∀ (d : PyData) (v : V) (u : Value), Dx X.K H j v d → RelV v u → d.showable = true → d.shown.length ≤ sizeLine →
    ∃ bs, ReadAtMost s.heap d.depth bs ∧ ReprK prog w bs s.heap d.depth u d.shown
  | .none, _, _, h, r, _, _ => by
    cases h; cases r
    exact ⟨[], (fun _ q => nomatch q), by simp only [PyData.shown]; exact .of_is ReprIs.none _ _ _⟩
  | .bool b, _, _, h, r, _, _ => by
    cases h; cases r
    exact ⟨[], (fun _ q => nomatch q), by simp only [PyData.shown]; exact .of_is (ReprIs.bool b) _ _ _⟩
  | .int i, _, _, h, r, hs, _ => by
    cases h
    obtain ⟨t, rfl⟩ := r
    exact ⟨[], (fun _ q => nomatch q), by simp only [PyData.shown]; exact .of_is (ReprIs.int t (by simpa [PyData.showable] using hs)) _ _ _⟩
  | .str x, _, _, h, r, _, hz => by
    cases h
    obtain ⟨t, rfl⟩ := r
    exact ⟨[], (fun _ q => nomatch q), by simp only [PyData.shown]; exact .of_is (ReprIs.str x t (by simpa only [PyData.shown] using hz)) _ _ _⟩
  | .list ds, v, u, h, r, hs, hz => by
    obtain ⟨as0, r0⟩ := Dx.reads I _ v u h r
    cases h with
    | lst _ hq ha =>
      cases r
      have hz' : (listText (PyData.shownAll ds)).length ≤ sizeLine := by simpa only [PyData.shown] using hz
      obtain ⟨its, rv, ⟨o, n, ho, hc, _, hd⟩, _⟩ := I.list hq
      obtain ⟨bs, hb, hk⟩ := DxAll.repr (prog := prog) (w := w) I ds _ its ha rv (by simpa [PyData.showable] using hs) (fun t ht => Nat.le_trans (listText_mem_le ht) hz')
      have hna := not_mem_of_deeper r0 (show PyData.depthAll ds < (PyData.list ds).depth by simp only [PyData.depth]; omega) hb
      refine ⟨_ :: bs, ReadAtMost.cons r0 (by simp only [PyData.depth]; omega) hb, ?_⟩
      simp only [PyData.depth, PyData.shown]
      cases its with
      | nil =>
        cases rv
        cases ha
        simp only [PyData.shownAll, listText_nil]
        exact ReprK.listEmpty ho hc hd
      | cons x l => exact ReprK.list ho hc hd hna (by simpa using hk.length_eq) (fun i y e => hk.item i y (by simpa using e))
  | .tuple ds, v, u, h, r, hs, hz => by
    obtain ⟨as0, r0⟩ := Dx.reads I _ v u h r
    cases h with
    | tup _ hq ha =>
      cases r
      have hz' : (tupleText (PyData.shownAll ds)).length ≤ sizeLine := by simpa only [PyData.shown] using hz
      obtain ⟨its, rv, ⟨o, ho, hc, n, hd⟩, _⟩ := I.tuple hq
      obtain ⟨bs, hb, hk⟩ := DxAll.repr (prog := prog) (w := w) I ds _ its ha rv (by simpa [PyData.showable] using hs) (fun t ht => Nat.le_trans (tupleText_mem_le ht) hz')
      have hna := not_mem_of_deeper r0 (show PyData.depthAll ds < (PyData.tuple ds).depth by simp only [PyData.depth]; omega) hb
      refine ⟨_ :: bs, ReadAtMost.cons r0 (by simp only [PyData.depth]; omega) hb, ?_⟩
      simp only [PyData.depth, PyData.shown]
      exact ReprK.tuple ho hc hd hna hk
  | .dict es, v, u, h, r, hs, hz => by
    obtain ⟨as0, r0⟩ := Dx.reads I _ v u h r
    cases h with
    | dic _ hq ha =>
      cases r
      have hz' : (dictText (PyData.shownKv es)).length ≤ sizeLine := by simpa only [PyData.shown] using hz
      obtain ⟨_, hsys, vs, kv, o, en, ep, ho, hx, hd, _, hp, _⟩ := dk_of I.hok hq
      obtain ⟨bs, hb, hk⟩ := DxKv.repr (prog := prog) (w := w) I es _ vs _ ha kv hp (by simpa [PyData.showable] using hs) (fun t ht => Nat.le_trans (dictText_mem_le ht) hz')
      have hna := not_mem_of_deeper r0 (show PyData.depthKv es < (PyData.dict es).depth by simp only [PyData.depth]; omega) hb
      refine ⟨_ :: bs, ReadAtMost.cons r0 (by simp only [PyData.depth]; omega) hb, ?_⟩
      simp only [PyData.depth, PyData.shown]
      exact ReprK.dict ho hx.1 hd hsys hna hk
theorem DxAll.repr {prog : Program} {w : World} (I : Inv X pins σ H s) : ∀ (ds : List PyData) (vs : List V) (us : List Value), DxAll X.K H j vs ds → Vals vs us → PyData.showableAll ds = true → (∀ t ∈ PyData.shownAll ds, t.length ≤ sizeLine) →
    ∃ bs, ReadAtMost s.heap (PyData.depthAll ds) bs ∧ ReprAllK prog w bs s.heap (PyData.depthAll ds) us (PyData.shownAll ds)
  | [], _, _, h, r, _, _ => by
    cases h; cases r
    exact ⟨[], (fun _ q => nomatch q), by simp only [PyData.shownAll]; exact .nil⟩
  | d :: ds, _, _, h, r, hs, hz => by
    cases h with
    | cons h1 h2 =>
      cases r with
      | cons r1 r2 =>
        have hs' : d.showable = true ∧ PyData.showableAll ds = true := by simpa [PyData.showableAll] using hs
        obtain ⟨b1, hb1, k1⟩ := Dx.repr (prog := prog) (w := w) I d _ _ h1 r1 hs'.1 (hz _ (by simp only [PyData.shownAll]; exact List.mem_cons_self ..))
        obtain ⟨b2, hb2, k2⟩ := DxAll.repr (prog := prog) (w := w) I ds _ _ h2 r2 hs'.2 (fun t ht => hz t (by simp only [PyData.shownAll]; exact List.mem_cons_of_mem _ ht))
        refine ⟨b1 ++ b2, ?_, ?_⟩
        · simp only [PyData.depthAll]
          exact (hb1.mono (Nat.le_max_left _ _)).append (hb2.mono (Nat.le_max_right _ _))
        · simp only [PyData.depthAll, PyData.shownAll]
          exact .cons ((k1.more fun b hb => List.mem_append_left _ hb).level_le (Nat.le_max_left _ _)) (k2.more_le (fun b hb => List.mem_append_right _ hb) (Nat.le_max_right _ _))
theorem DxKv.repr {prog : Program} {w : World} (I : Inv X pins σ H s) : ∀ (es : List (PyData × PyData)) (kvs : List (Key × V)) (vs : List (Key × Value)) (en : List DictEntry), DxKv X.K H j kvs es → KV kvs vs → Pairs (mixKind X.prog X.w) en vs →
    PyData.showableKv es = true → (∀ t ∈ PyData.shownKv es, t.length ≤ sizeLine) → ∃ bs, ReadAtMost s.heap (PyData.depthKv es) bs ∧ ReprEntriesK prog w bs s.heap (PyData.depthKv es) en (PyData.shownKv es)
  | [], _, _, _, h, r, p, _, _ => by
    cases h; cases r; cases p
    exact ⟨[], (fun _ q => nomatch q), by simp only [PyData.shownKv]; exact .nil⟩
  | (k, d) :: es, _, _, _, h, r, p, hs, hz => by
    cases h with
    | cons h1 h2 =>
      cases r with
      | cons r1 r2 =>
        cases p with
        | cons p1 p2 p3 =>
          obtain ⟨e1, r1⟩ := r1
          rw [← p2] at r1
          obtain ⟨s1, s2, s3⟩ := kd_split hs
          have z0 := hz _ (by simp only [PyData.shownKv]; exact List.mem_cons_self ..)
          have z1 := Nat.le_trans (Nat.le_trans (Nat.le_add_right _ _) (Nat.le_of_eq (strLen_append _ ": ").symm)) (Nat.le_trans (Nat.le_trans (Nat.le_add_right _ _) (Nat.le_of_eq (strLen_append _ d.shown).symm)) z0)
          have z2 : d.shown.length ≤ sizeLine := Nat.le_trans (by rw [strLen_append, strLen_append]; omega) z0
          obtain ⟨b1, hb1, k1⟩ := Dx.repr (prog := prog) (w := w) I d _ _ h1 r1 s2 z2
          obtain ⟨b2, hb2, k2⟩ := DxKv.repr (prog := prog) (w := w) I es _ _ _ h2 r2 p3 s3 (fun t ht => hz t (by simp only [PyData.shownKv]; exact List.mem_cons_of_mem _ ht))
          refine ⟨b1 ++ b2, ?_, ?_⟩
          · simp only [PyData.depthKv]
            exact (hb1.mono (by omega)).append (hb2.mono (by omega))
          · simp only [PyData.depthKv, PyData.shownKv]
            have p1' := p1
            rw [mixKind_is, ← e1] at p1'
            refine .cons (key_repr s.heap p1' s1 z1 _ _) ((k1.more fun b hb => List.mem_append_left _ hb).level_le (by omega)) ?_
            exact ent_more (fun b hb => List.mem_append_right _ hb) (by omega) k2
end
end

/-- repr(x), where no repr is running -/
def rRepr (K : PySem.W.Frag) : List V → Hp → VK → Prop := fun xs H Q => ∃ v d j, xs = [v] ∧ Dx K H j v d ∧ d.showable = true ∧ d.shown.length ≤ sizeLine ∧ d.depth ≤ 60 ∧ Q (.str d.shown) H
theorem call_reprX {X : Cx} (hu : X.A.units + 64 < cLine) (hg : X.A.guards = some []) : CallR X (.builtin "repr") (rRepr X.K) := by
  intro pins s σ H xs us Q I r h
  obtain ⟨v, d, j, rfl, hx, hs, hz, hd, q⟩ := h
  obtain ⟨u, rfl, r1⟩ := vals1 r
  obtain ⟨as0, r0⟩ := Dx.reads I d v u hx r1
  have fin : ∀ h' tk, (∀ b o, s.heap.get? b = some o → h'.get? b = some o) → ∀ uu, EP X pins σ Q (.str d.shown uu) { s with heap := h', toks := tk } := fun h' tk k uu =>
    ⟨.str d.shown, H, I.kept k, ⟨_, rfl⟩, q⟩
  cases hx with
  | non =>
    cases r1
    refine PySem.P.repr_of_none ?_
    have z := fin s.heap (s.toks + 1) (fun _ _ e => e) s.toks
    simpa only [PyData.shown] using z
  | bl b =>
    cases r1
    refine PySem.P.repr_of_bool ?_
    have z := fin s.heap (s.toks + 1) (fun _ _ e => e) s.toks
    simpa only [PyData.shown] using z
  | int i =>
    obtain ⟨t, rfl⟩ := r1
    refine PySem.P.repr_of_int (by simpa [PyData.showable] using hs) ?_
    have z := fin s.heap (s.toks + 1) (fun _ _ e => e) s.toks
    simpa only [PyData.shown] using z
  | str x =>
    obtain ⟨t, rfl⟩ := r1
    have z := fin s.heap (s.toks + 1) (fun _ _ e => e) s.toks
    simp only [PyData.shown] at z hz
    exact PySem.P.repr_of_str z hz
  | @lst a xs ds _ hq ha =>
    cases r1
    have hz' : (listText (PyData.shownAll ds)).length ≤ sizeLine := by simpa only [PyData.shown] using hz
    obtain ⟨its, rv, ⟨o, n, ho, hc, _, hdd⟩, _⟩ := I.list hq
    obtain ⟨bs, hb, hk⟩ := DxAll.repr (prog := X.prog) (w := X.w) I ds _ its ha rv (by simpa [PyData.showable] using hs) (fun t ht => Nat.le_trans (listText_mem_le ht) hz')
    have hna := not_mem_of_deeper r0 (show PyData.depthAll ds < (PyData.list ds).depth by simp only [PyData.depth]; omega) hb
    simp only [PyData.depth] at hd
    simp only [PyData.shown] at fin
    refine call_repr_slot (T := "list") (by omega) ⟨o, ho, hc⟩ F.slot_list_repr.toG ?_
    cases its with
    | nil =>
      cases rv
      cases ha
      simp only [PyData.shownAll, listText_nil] at fin
      exact call_list_repr_empty ⟨o, ho, hc⟩ ho hdd ⟨_, _, rfl, fin s.heap _ (fun _ _ e => e) _⟩
    | cons x l =>
      exact call_list_reprK (h₀ := s.heap) ho hc hdd hna (by simpa using hk.length_eq) (fun i y e => hk.item i y (by simpa using e)) hg (fun b _ => Clear.nil b) (by show X.A.units + 1 + _ < _; omega) (fun _ _ e => e) (fun h' u tk k => ⟨_, _, rfl, fin h' tk k u⟩) hz'
  | @tup a xs ds _ hq ha =>
    cases r1
    have hz' : (tupleText (PyData.shownAll ds)).length ≤ sizeLine := by simpa only [PyData.shown] using hz
    obtain ⟨its, rv, ⟨o, ho, hc, n, hdd⟩, _⟩ := I.tuple hq
    obtain ⟨bs, hb, hk⟩ := DxAll.repr (prog := X.prog) (w := X.w) I ds _ its ha rv (by simpa [PyData.showable] using hs) (fun t ht => Nat.le_trans (tupleText_mem_le ht) hz')
    have hna := not_mem_of_deeper r0 (show PyData.depthAll ds < (PyData.tuple ds).depth by simp only [PyData.depth]; omega) hb
    simp only [PyData.depth] at hd
    simp only [PyData.shown] at fin
    refine call_repr_slot (T := "tuple") (by omega) ⟨o, ho, hc⟩ F.slot_tuple_repr ?_
    exact call_tuple_reprK (h₀ := s.heap) ho hc hdd hna hk hg (fun b _ => Clear.nil b) (by show X.A.units + 1 + _ < _; omega) (fun _ _ e => e) (fun h' u tk k => ⟨_, _, rfl, fin h' tk k u⟩) hz'
  | @dic a kvs es _ hq ha =>
    cases r1
    have hz' : (dictText (PyData.shownKv es)).length ≤ sizeLine := by simpa only [PyData.shown] using hz
    obtain ⟨_, hsys, vs, kv, o, en, ep, ho, hx, hdd, _, hp, _⟩ := dk_of I.hok hq
    obtain ⟨bs, hb, hk⟩ := DxKv.repr (prog := X.prog) (w := X.w) I es _ vs _ ha kv hp (by simpa [PyData.showable] using hs) (fun t ht => Nat.le_trans (dictText_mem_le ht) hz')
    have hna := not_mem_of_deeper r0 (show PyData.depthKv es < (PyData.dict es).depth by simp only [PyData.depth]; omega) hb
    simp only [PyData.depth] at hd
    simp only [PyData.shown] at fin
    refine call_repr_slot (T := "dict") (by omega) ⟨o, ho, hx.1⟩ F.slot_dict_repr ?_
    exact call_dict_reprK (h₀ := s.heap) ho hx.1 hdd hsys hna hk hg (fun b _ => Clear.nil b) (by show X.A.units + 1 + _ < _; omega) (fun _ _ e => e) (fun h' u tk k => ⟨_, _, rfl, fin h' tk k u⟩) hz'
end Cv

/-! part B1 -/
set_option maxRecDepth 100000
set_option maxHeartbeats 4000000
namespace Cv
open PySem PySem.Spec PyProof.Rows L2
open PySem.W (Frag)
/-! ### defs whose bodies may call repr: their callers run no repr -/
structure FnG (P : Program) (w : World) (K : Frag) (mg : Str → Option Value) (base : Heap) (CX : CXT) (k : Nat) (f : Addr) (fd : FuncData) (ps : List Str) (sp : Sp) : Prop where
  len : ∀ vs H Q E, sp vs H Q E → vs.length = ps.length
  go : ∀ (A : Around) (outer : List Env) (s : Shared) (H : Hp) (args : Args) (us : List Value) (vs : List V) (Q : VK) (E : XK),
    A.guards = some [] → Room k A → Env0 P w K mg base A outer s H → BindsTo s fd args (ps.zip us) →
    Vals vs us → sp vs H Q E → codeAny (model P w) A (.call (.ref f) args) (CR CX outer P w H s Q E) s
section
variable {P : Program} {w : World} {K : Frag} {mg : Str → Option Value} {base : Heap} {CX : CXT} {k : Nat} {f : Addr} {fd : FuncData} {ps : List Str} {sp : Sp}
theorem FnG.of (F : FnOk P w K mg base CX k f fd ps sp) : FnG P w K mg base CX k f fd ps sp :=
  ⟨F.len, fun A outer s H args us vs Q E _ hr e0 hb r h => F.run A outer s H args us vs Q E hr e0 hb r h⟩
/-- the rule for a def, where no repr runs around it -/
theorem fn_gd {name qual : Str} {params : Arguments} {body : List Stmt} {scope : Scope} {dV kV doc pm cdv ct oc : Value} {an od : Option Addr} {osl : Array (Option Value)} {N : List Str}
    (lk : K.lookup f = some ⟨oc, od, .func (PySem.W.fnOf name qual params body scope dV kV doc pm an cdv ct), osl⟩) (hcd : PySem.W.codeIn K cdv qual = true)
    (S : FnScope N ps scope) (hlen : ∀ vs H Q E, sp vs H Q E → vs.length = ps.length)
    (hbody : ∀ (A : Around) (outer : List Env) (s : Shared) (H : Hp) (vs : List V) (Q : VK) (E : XK),
      A.guards = some [] → Room k (A.deeper (envOfC qual scope s.heap.objs.size f cdv)) → sp vs H Q E →
      ∃ t, PSs (cxOf CX P w K mg base N qual scope f cdv A outer s H E) body t ∧ t { nx := fun _ H' => Q .non H', rt := Q } (start N vs) H) :
    FnG P w K mg base CX (k + 1) f (PySem.W.fnOf name qual params body scope dV kV doc pm an cdv ct) ps sp := by
  refine ⟨hlen, fun A outer s H args us vs Q E gA room e0 hb r hsp => ?_⟩
  have vl := hlen _ _ _ _ hsp
  have kx : K.In s.heap := e0.mod.kin.keeps (fun b o e => And.left (e0.bs b o e))
  have noLim : s.heap.NoLimit := e0.mod.nolimit.keeps (fun b o e => And.left (e0.bs b o e))
  have kinds : ∀ y ∈ ps.zip us, scope.names.lookup y.1 = some .local ∨
      (scope.names.lookup y.1 = some .cell ∧ ((cellsFrom (s.heap.objs.size + 1) scope.names []).lookup y.1).isSome = true) := by
    rintro ⟨nm, v⟩ hy
    cases S.par nm (List.of_mem_zip hy).1 with
    | inl z => exact .inl z
    | inr z => exact .inr ⟨z, PySem.W.cellsFrom_some _ _ _ (.inl z)⟩
  refine codeAny_call_function room.depth (kx _ _ lk) rfl S.co S.gen rfl (PySem.W.codeRec_of kx hcd) (hb _ _ _ _ ?_)
  refine wpAny_newFunctionEnv_cells S.kind kinds (fun env he t1 icc => ?_)
  subst he
  refine ⟨noLim.keeps icc.toInCall.keep, codeAny_func ?_⟩
  obtain ⟨t, ht, tq⟩ := hbody A outer s H vs Q E gA (room.deeper _) hsp
  have J0 := inv_start (CX := CX) (P := P) (mg := mg) (base := base) (E := E) S room.hd e0 vl r icc
  refine wpAny_mono (ht.run [] t1 (start N vs) H _ J0 tq) (fun fl s' hs => ?_) (fun e s' hs => hs)
  cases fl with
  | ret u =>
    obtain ⟨v, σ', H', J, rv, q⟩ := hs
    exact ⟨v, H', J.os, J.bare, J.base, J.hok, rv, q⟩
  | next =>
    obtain ⟨σ', H', J, q⟩ := hs
    exact ⟨V.non, H', J.os, J.bare, J.base, J.hok, rfl, q⟩
  | brk => obtain ⟨_, _, _, z⟩ := hs; exact False.elim z
  | cont => obtain ⟨_, _, _, z⟩ := hs; exact False.elim z
end
section
variable {P : Program} {w : World} {K : Frag} {mg : Str → Option Value} {base : Heap} {ps : List Str} {k : Nat} {sp : Sp}
theorem fun_gd {x qual : Str} {st : Stmt} {f : Addr} {fd : FuncData} {N : List Str} (F : Fun K x qual st f fd) (S : FnScope N ps (defScope st)) (hlen : ∀ vs H Q E, sp vs H Q E → vs.length = ps.length)
    (hbody : ∀ (cdv : Value) (A : Around) (outer : List Env) (s : Shared) (H : Hp) (vs : List V) (Q : VK) (E : XK), A.guards = some [] →
      Room k (A.deeper (envOfC qual (defScope st) s.heap.objs.size f cdv)) → sp vs H Q E →
      ∃ t, PSs (cxOf CX0 P w K mg base N qual (defScope st) f cdv A outer s H E).nox (defBody st) t ∧ t { nx := fun _ H' => Q .non H', rt := Q } (start N vs) H) :
    FnG P w K mg base CX0 (k + 1) f fd ps sp := by
  obtain ⟨oc, od, kV, doc, pm, an, cdv, ct, osl, rfl, lk, hc⟩ := F.ex
  refine fn_gd lk hc S hlen (fun A outer s H vs Q E gA room hsp => ?_)
  obtain ⟨t, ht, q⟩ := hbody cdv A outer s H vs Q E gA room hsp
  exact ⟨t, ht.nox, q⟩
end

/-! ### a def by name: its promise, where it stands, how it binds -/
/-- the module's name x holds a def that keeps sp -/
structure Has (P : Program) (w : World) (K : Frag) (mg : Str → Option Value) (base : Heap) (CX : CXT) (k : Nat) (x : Str) (ps : List Str) (sp : Sp) : Prop where
  ex : ∃ f fd, FnOk P w K mg base CX k f fd ps sp ∧ mg x = some (.ref f) ∧ PySem.W.keepIn K (.ref f) = true ∧ Binds K fd ps []
/-- the same, for a caller within which no repr runs -/
structure HasG (P : Program) (w : World) (K : Frag) (mg : Str → Option Value) (base : Heap) (CX : CXT) (k : Nat) (x : Str) (ps : List Str) (sp : Sp) : Prop where
  ex : ∃ f fd, FnG P w K mg base CX k f fd ps sp ∧ mg x = some (.ref f) ∧ PySem.W.keepIn K (.ref f) = true ∧ Binds K fd ps []
/-- .. called by keywords alone: their values zs come to the parameters' order by g -/
structure HasK (P : Program) (w : World) (K : Frag) (mg : Str → Option Value) (base : Heap) (CX : CXT) (k : Nat) (x : Str) (ps ks : List Str) (g : {α : Type} → List α → List α) (sp : Sp) : Prop where
  ex : ∃ f fd, FnOk P w K mg base CX k f fd ps sp ∧ mg x = some (.ref f) ∧ PySem.W.keepIn K (.ref f) = true ∧
    (∀ (s : Shared) (ws : List Value), ws.length = ks.length → BindsTo s fd ⟨[], ks.zip ws⟩ (ps.zip (g ws))) ∧
    (∀ {zs : List V} {ws : List Value}, Vals zs ws → zs.length = ks.length → Vals (g zs) (g ws))
section
variable {X : Cx} {CX : CXT} {k j : Nat} {ps ks : List Str} {sp : Sp} {E : XK} {x : Str} {p pos : Pos} {e : Expr} {es : List Expr} {kws : List Keyword} {t : TA}
def tCl (sp : Sp) (E : XK) (t : TA) : TE := fun σ H Q => t σ H fun vs H1 => sp vs H1 Q E
theorem pe_has (D : Has X.prog X.w X.K X.mg X.base CX k x ps sp) (hr : Room j X.A) (hx : Passes CX X E) (ha : PA X (e :: es) t) (hkj : k ≤ j := by decide) (hg : Gl X x := by rfl) (hdb : (x == ("__debug__" : Str)) = false := by decide)
    (he : starEach (e :: es) X.env = (false, eval e X.env) :: starEach es X.env := by rfl) (hpl : (backTo pos (starEach es X.env)).any (·.1) = false := by rfl) : PE X (.Call (.Name x p) (e :: es) [] pos) (tCl sp E t) := by
  obtain ⟨f, fd, F, hm, hk, hb⟩ := D.ex
  refine ⟨fun pins s σ H Q I h => ?_⟩
  refine (pe_call F (hr.mono hkj) hg hm hk hb .nil hx ha hdb he hpl).run pins s σ H Q I ?_
  show t σ H fun vs H1 => sp (vs ++ []) H1 Q E
  have h' : t σ H fun vs H1 => sp vs H1 Q E := h
  have e2 : (fun (vs : List V) (H1 : Hp) => sp (vs ++ []) H1 Q E) = fun vs H1 => sp vs H1 Q E := by
    funext vs H1
    rw [List.append_nil]
  rw [e2]
  exact h'
/-- the callee runs -/
theorem run_gd {f : Addr} {fd : FuncData} {pins : List (Addr × Obj)} {σ : L2.St} {H : Hp} {s : Shared} {Q : VK} {us : List Value} {vs : List V} (F : FnG X.prog X.w X.K X.mg X.base CX k f fd ps sp) (hgd : X.A.guards = some []) (hr : Room k X.A) (hb : Binds X.K fd ps []) (hx : Passes CX X E)
    (I : Inv X pins σ H s) (r : Vals vs us) (h : sp vs H Q E) : wpAny (model X.prog X.w) X.A (call (.ref f) us) (EP X pins σ Q) X.xe s := by
  have hl : (us ++ ([] : List Value)).length = ps.length := by
    rw [List.append_nil, ← r.length]
    exact F.len _ _ _ _ h
  have hb2 := hb s us I.kIn hl
  rw [List.append_nil] at hb2
  refine wpAny_call (codeAny_mono (F.go X.A X.stack s H ⟨us, []⟩ us vs Q E hgd hr I.env0 hb2 r h) (fun res s' hq => ?_))
  cases res with
  | error e => exact hx pins σ H s e s' I hq
  | ok fl => cases fl <;> first | exact I.after hq | exact False.elim hq
theorem pe_hasG (D : HasG X.prog X.w X.K X.mg X.base CX k x ps sp) (hgd : X.A.guards = some []) (hr : Room j X.A) (hx : Passes CX X E) (ha : PA X (e :: es) t) (hkj : k ≤ j := by decide) (hg : Gl X x := by rfl) (hdb : (x == ("__debug__" : Str)) = false := by decide)
    (he : starEach (e :: es) X.env = (false, eval e X.env) :: starEach es X.env := by rfl) (hpl : (backTo pos (starEach es X.env)).any (·.1) = false := by rfl) : PE X (.Call (.Name x p) (e :: es) [] pos) (tCl sp E t) := by
  obtain ⟨f, fd, F, hm, hk, hb⟩ := D.ex
  refine ⟨fun pins s σ H Q I h => ?_⟩
  refine wpAny_Call_Name_kw (ld_glob I hg hm ?_ hdb)
  refine PySem.W.callWith_K (h₀ := X.base) I.ok.mod.kin hk (thn (ha.run pos pins s σ H _ I h) fun us s1 hh => ?_) he hpl
  obtain ⟨vs, H1, I1, r, q⟩ := hh
  exact ⟨I1.kIn, run_gd F hgd (hr.mono hkj) hb hx I1 r q⟩
/-- f(k = v, ..) -/
theorem pe_hasK {g : {α : Type} → List α → List α} (D : HasK X.prog X.w X.K X.mg X.base CX k x ps ks g sp) (hr : Room j X.A) (hx : Passes CX X E) (hkw : PK X kws t) (hkj : k ≤ j := by decide)
    (hall : (backToKw pos (keywordEach kws X.env)).all (·.1.isSome) = true := by rfl) (hks : (backToKw pos (keywordEach kws X.env)).filterMap (·.1) = ks := by rfl) (hn : kws.length = ks.length := by rfl)
    (hg : Gl X x := by rfl) (hdb : (x == ("__debug__" : Str)) = false := by decide)
    (hpl : ((backTo pos (starEach [] X.env)).any (·.1) || (backToKw pos (keywordEach kws X.env)).any (·.1.isNone)) = false := by rfl) :
    PE X (.Call (.Name x p) [] kws pos) (fun σ H Q => t σ H fun zs H1 => zs.length = ks.length ∧ sp (g zs) H1 Q E) := by
  obtain ⟨f, fd, F, hm, hk, hb, hrel⟩ := D.ex
  refine ⟨fun pins s σ H Q I h => ?_⟩
  refine wpAny_Call_Name_kw (ld_glob I hg hm ?_ hdb)
  refine PySem.W.callWith_KW0 (h₀ := X.base) I.ok.mod.kin hk hall (thn (hkw.run pos pins s σ H _ I h) fun ws s1 hh => ?_) hpl
  obtain ⟨zs, H1, I1, rz, hz, q⟩ := hh
  refine ⟨I1.kIn, ?_⟩
  rw [hks]
  have hw : ws.length = ks.length := by rw [← rz.length]; exact hz
  refine wpAny_call (codeAny_mono (F.run X.A X.stack s1 H1 ⟨[], ks.zip ws⟩ (g ws) (g zs) Q E (hr.mono hkj) I1.env0 (hb s1 ws hw) (hrel rz hz) q) (fun res s' hq => ?_))
  cases res with
  | error e => exact hx pins σ H1 s1 e s' I1 hq
  | ok fl => cases fl <;> first | exact I1.after hq | exact False.elim hq
end

/-! ### a few more rules -/
section
variable {X : Cx}
/-- ** of ints of any size -/
theorem op_powB : OpR X (binaryOp .Pow) (rI (fun i j => 0 ≤ j ∧ (Builtin.Int.intBits i : Int) * j ≤ 2 ^ 27) fun i j => .int (i ^ j.toNat)) := opI fun _ _ _ _ _ _ _ hc q =>
  PyProof.Rows.pow_int hc.1 hc.2 q
theorem bits_of {i : Int} {n : Nat} (h : i.natAbs < 2 ^ n) : Builtin.Int.intBits i ≤ n := by
  unfold Builtin.Int.intBits
  split
  · omega
  · rename_i h0
    have h1 : i.natAbs ≠ 0 := fun z => h0 (by simpa using z)
    have h2 := (Nat.log2_lt h1).mpr h
    omega
/-- xs != [] -/
def rNeL (K : Frag) : R2 := fun x y H Q => ∃ a b xs, x = .ref a ∧ y = .ref b ∧ SqL K H a xs ∧ SqL K H b [] ∧ Q (.bl (!xs.isEmpty)) H
/-- xs == [] -/
def rEqL (K : Frag) : R2 := fun x y H Q => ∃ a b xs, x = .ref a ∧ y = .ref b ∧ SqL K H a xs ∧ SqL K H b [] ∧ Q (.bl xs.isEmpty) H
theorem none_items {its : List Value} (r : Vals [] its) : its = [] := by
  cases r
  rfl
/-- != of a list and the empty list -/
theorem op_neL (hu : X.A.units < cLine) : OpR X (compareOp .NotEq) (rNeL X.K) := by
  intro pins s σ H x y v u Q I rx ry h
  obtain ⟨a, b, xs, rfl, rfl, ha, hb, q⟩ := h
  obtain rfl : v = Value.ref a := rx
  obtain rfl : u = Value.ref b := ry
  obtain ⟨its, r1, ⟨⟨cls, dd, data, sl⟩, n, ho, hc, hdd, hd⟩, _⟩ := I.list ha
  obtain ⟨its2, r2, ⟨⟨cls2, dd2, data2, sl2⟩, n2, ho2, hc2, hdd2, hd2⟩, _⟩ := I.list hb
  simp only at hc hd hc2 hd2
  subst hc hd hc2 hd2
  have e2 := none_items r2
  subst e2
  have ta : s.TypeIs (.ref a) "list" := ⟨_, ho, rfl⟩
  have tb : s.TypeIs (.ref b) "list" := ⟨_, ho2, rfl⟩
  show wpAny _ _ (richCompare .NotEq (.ref a) (.ref b)) _ _ s
  cases its with
  | nil =>
    have e1 : xs = [] := by cases r1; rfl
    subst e1
    refine wpAny_richCompare_same_room (op := .NotEq) ta tb F.slot_list_ne (call_meets F.slot_list_ne ta F.entry_list_ne (F.args_list_ne_2 _ _) (SeqAt.list_neAt a b _ _ n n2 dd dd2 sl sl2 rfl (fun _ => true))
      ⟨ho, ho2, fun j h1 _ => absurd h1 (by simp), ⟨(fun z => nomatch z), ⟨.bl false, H, I, rfl, q⟩⟩⟩) hu
  | cons z l =>
    have e1 : xs.isEmpty = false := by cases r1; rfl
    rw [e1] at q
    refine wpAny_richCompare_same_room (op := .NotEq) ta tb F.slot_list_ne (call_meets F.slot_list_ne ta F.entry_list_ne (F.args_list_ne_2 _ _) (SeqAt.list_ne_lengthsAt a b _ _ n n2 dd dd2 sl sl2 (by simp))
      ⟨ho, ho2, ⟨(fun z => nomatch z), ⟨.bl true, H, I, rfl, q⟩⟩⟩) hu
end
end Cv

/-! part B2 -/
set_option maxRecDepth 100000
set_option maxHeartbeats 4000000
namespace Cv
open PySem PySem.Spec PyProof.Rows L2
open PySem.W (Frag)
section
variable {prog : Program} {w : World} {A : Around} {E : Value → Shared → Prop} {s : Shared}
theorem hint_str {x : Str} {t : Tok} {Q : Bool → Shared → Prop} (h : Q false s) : wpAny (model prog w) A (Builtin.List.listLengthHint (.str x t)) Q E s := by
  have hT : s.TypeIs (.str x t) "str" := typeIs_str s x t
  unfold Builtin.List.listLengthHint
  refine wpAny_bind (wpAny_specialOf hT F.slot_str_len.lookup ?_)
  generalize hid : ("str.__len__" : String) = id0
  wp_delta
  rw [show splitId id0 = some ("str", "__len__") from by subst hid; decide +kernel]
  subst hid
  refine wpAny_bind (wpAny_isInstance (T := "str") (b := true) hT isSubtype_str_str ?_)
  refine wpAny_ite_split (fun hab => absurd hab (by decide)) (fun _ => ?_)
  refine wpAny_ite_split (fun _ => ?_) (fun hab => absurd (by decide +kernel) hab)
  refine wpAny_bind (wpAny_typeOf hT ?_)
  exact wpAny_pure h
theorem ext_str {R : Result → Shared → Prop} (hh : A.handled = none) (x : Str) (t : Tok) (S : Addr) (res : Value) (c₀ : Nat) (hS : s.heap.get? S = some { cls := .type "list", data := .seq #[] c₀ })
    (hR : ∀ h' tk acc' c', (∀ b o, b ≠ S → s.heap.get? b = some o → h'.get? b = some o) → h'.get? S = some { cls := .type "list", dict := none, data := .seq acc' c', slots := #[] } →
      ItemsOf (SignAt x) acc' x.cps.size → R (.ok (.ret res)) { s with heap := h', toks := tk }) (hn : x.cps.size ≤ sizeLine) :
    wpAny (model prog w) A.in1 (Builtin.List.listExtendWith (.ref S) (.str x t) res)
      (fun fin s' => match fin with | .done f => R (.ok f) s' | .again c' => c'.quiet = true ∧ codeAny (model prog w) A c' R s') (fun e s' => R (.error e) s') s := by
  have n1 : S ≠ s.heap.objs.size := Nat.ne_of_lt (Heap.lt_size hS)
  have n2 : S ∉ [s.heap.objs.size] := fun m => n1 (List.mem_singleton.mp m)
  unfold Builtin.List.listExtendWith
  refine wpAny_bind (wpAny_typeOf (T := "str") (v := .str x t) (typeIs_str s x t) ?_)
  have c1 : Builtin.List.listSameRef (.ref S) (.str x t) = false := rfl
  have c2 : (Value.type "str" == Value.type "list") = false := by decide
  have c3 : (Value.type "str" == Value.type "tuple") = false := by decide
  simp only [c1, c2, c3, Bool.or_false, Bool.false_eq_true, if_false]
  refine wpAny_bind (wpAny_pyIter_str fun o St W h0 => ?_)
  refine wpAny_bind (wpAny_holding (hint_str ?_))
  rw [if_neg (by first | decide | decide +kernel)]
  have W1 := W A.in1 hh
  refine wpAny_pure ⟨plainId_quiet PySem.F.plain_extend_loop _, codeAny_extend_loopS W1.toS hn _ n2 _ x.cps.size 0 _ _ _ rfl (Nat.zero_le _) h0 (Heap.get?_push_of_some _ hS) (ItemsOf.nil _) fun s' acc' c' hm hS' hacc => ?_⟩
  rw [Moved.eq_with hm]
  refine hR s'.heap s'.toks acc' c' (fun b ob hb e => hm.heap b ob (fun z => ?_) (Heap.get?_push_of_some _ e)) hS' hacc
  cases List.mem_cons.mp z with
  | inl z1 => exact hb z1
  | inr z1 => exact absurd (Heap.lt_size e) (by rw [List.mem_singleton.mp z1]; exact Nat.lt_irrefl _)
/-- list(x) of a text: its signs -/
theorem list_str {x : Str} {t : Tok} {Q : Value → Shared → Prop} (hh : A.handled = none) (hn : x.cps.size ≤ sizeLine)
    (hQ : ∀ h' tk acc' c', (∀ b o, s.heap.get? b = some o → h'.get? b = some o) → h'.get? s.heap.objs.size = some { cls := .type "list", dict := none, data := .seq acc' c', slots := #[] } →
      ItemsOf (SignAt x) acc' x.cps.size → Q (.ref s.heap.objs.size) { s with heap := h', toks := tk }) : wpAny (model prog w) A (call (.type "list") [.str x t]) Q E s := by
  refine callType_codes (Q₁ := fun obj s₁ => obj = .ref s.heap.objs.size ∧ s₁ = { s with heap := s.heap.push { cls := .type "list", data := .seq #[] } })
    PySem.F.called_list (PySem.F.typeCall_list_1 _) PySem.F.entry_list_init (code_list_new _ ⟨rfl, rfl⟩) fun obj s₁ h₁ => ?_
  obtain ⟨rfl, rfl⟩ := h₁
  have hS : (s.heap.push { cls := .type "list", data := .seq #[] }).get? s.heap.objs.size = some { cls := .type "list", data := .seq #[] } := Heap.get?_push_size _ rfl
  refine ⟨⟨_, hS, rfl⟩, PySem.F.args_list_init_2 _ _, ?_⟩
  show wpAny _ _ (do let old ← Builtin.List.listItems (.ref _); Builtin.List.listUpdate (.ref _) (fun _ => #[]); letGo old.toList.reverse; Builtin.List.listExtendWith (.ref _) (.str x t) .none) _ _ _
  refine wpAny_bind ?_
  unfold Builtin.List.listItems
  refine wpAny_bind (wpAny_seqItems hS rfl (wpAny_pure ?_))
  refine wpAny_bind (m := updateSeq s.heap.objs.size (fun _ => #[])) (wpAny_updateSeq hS rfl ?_)
  have hS2 := Heap.get?_update_self (Obj.mapSeq (fun _ => (#[] : Array Value))) hS rfl
  refine wpAny_bind (wpAny_letGo ?_)
  refine ext_str (A := A.in1) hh x t _ .none _ hS2 (fun h' tk acc' c' hk hS' hacc => ?_) hn
  exact ⟨rfl, hQ h' tk acc' c' (fun b o e => hk b o (Nat.ne_of_lt (Heap.lt_size e)) ((Heap.get?_update_other _ _ (Ne.symm (Nat.ne_of_lt (Heap.lt_size e)))).trans (Heap.get?_push_of_some _ e))) hS' hacc⟩
end
/-- the signs of a text, each a text -/
def signs (x : Str) : List Str := x.cps.toList.map fun c => ⟨#[c]⟩
section
variable {X : Cx}
theorem call_list_str (hc : X.calm = true) : CallR X (.type "list") (fun xs H Q => ∃ x, xs = [.str x] ∧ x.cps.size ≤ sizeLine ∧ ∀ p, H p = none → Q (.ref p) (upd H p (.lst ((signs x).map V.str)))) := by
  intro pins s σ H xs us Q I r h
  obtain ⟨x, rfl, hz, q⟩ := h
  obtain ⟨u, rfl, t, rfl⟩ := vals1 r
  refine list_str (I.ok.hd hc) hz fun h' tk acc c hk hp hi => ?_
  have hf : H s.heap.objs.size = none := I.hok.fresh (Nat.le_refl _)
  refine ⟨.ref s.heap.objs.size, upd H s.heap.objs.size (.lst ((signs x).map V.str)), I.laid (t' := tk) hk (Nat.le_refl _) ?_, rfl, q _ hf⟩
  have hl : (signs x).length = x.cps.size := by simp [signs]
  refine ⟨by rw [List.length_map, hl]; exact hz, acc.toList, c, ?_, by simpa using hp⟩
  refine vals_of_idx _ _ (by rw [List.length_map, hl]; exact hi.1) fun j u hj => ?_
  obtain ⟨cc, t', e1, e2⟩ := hi.2 j u (by simpa using hj)
  have e3 : x.cps.toList[j]? = some cc := by rw [Array.getElem?_toList]; exact e1
  exact ⟨.str ⟨#[cc]⟩, by rw [signs, List.map_map, List.getElem?_map, e3]; rfl, ⟨t', e2⟩⟩
end
end Cv

/-! part B3 -/
set_option maxRecDepth 100000
set_option maxHeartbeats 4000000
namespace Cv
open PySem PySem.Spec PyProof.Rows L2
open PySem.W (Frag)
section
variable {X : Cx}
/-- == of a list and the empty list -/
theorem op_eqL (hu : X.A.units < cLine) : OpR X (compareOp .Eq) (rEqL X.K) := by
  intro pins s σ H x y v u Q I rx ry h
  obtain ⟨a, b, xs, rfl, rfl, ha, hb, q⟩ := h
  obtain rfl : v = Value.ref a := rx
  obtain rfl : u = Value.ref b := ry
  obtain ⟨its, r1, ⟨⟨cls, dd, data, sl⟩, n, ho, hc, hdd, hd⟩, _⟩ := I.list ha
  obtain ⟨its2, r2, ⟨⟨cls2, dd2, data2, sl2⟩, n2, ho2, hc2, hdd2, hd2⟩, _⟩ := I.list hb
  simp only at hc hd hc2 hd2
  subst hc hd hc2 hd2
  have e2 := none_items r2
  subst e2
  have ta : s.TypeIs (.ref a) "list" := ⟨_, ho, rfl⟩
  have tb : s.TypeIs (.ref b) "list" := ⟨_, ho2, rfl⟩
  show wpAny _ _ (richCompare .Eq (.ref a) (.ref b)) _ _ s
  cases its with
  | nil =>
    have e1 : xs = [] := by cases r1; rfl
    subst e1
    refine wpAny_richCompare_same_room (op := .Eq) ta tb F.slot_list_eq (call_meets F.slot_list_eq ta F.entry_list_eq (F.args_list_eq_2 _ _) (SeqAt.list_eqAt a b _ _ n n2 dd dd2 sl sl2 rfl (fun _ => true))
      ⟨ho, ho2, fun j h1 _ => absurd h1 (by simp), ⟨(fun z => nomatch z), ⟨.bl true, H, I, rfl, q⟩⟩⟩) hu
  | cons z l =>
    have e1 : xs.isEmpty = false := by cases r1; rfl
    rw [e1] at q
    refine wpAny_richCompare_same_room (op := .Eq) ta tb F.slot_list_eq (call_meets F.slot_list_eq ta F.entry_list_eq (F.args_list_eq_2 _ _) (SeqAt.list_eq_lengthsAt a b _ _ n n2 dd dd2 sl sl2 (by simp))
      ⟨ho, ho2, ⟨(fun z => nomatch z), ⟨.bl false, H, I, rfl, q⟩⟩⟩) hu
/-- == and != of data -/
def rEqX (K : Frag) : R2 := fun x y H Q => ∃ d e j1 j2, Dx K H j1 x d ∧ Dx K H j2 y e ∧ SeqAt.shaped d = true ∧ SeqAt.shaped e = true ∧ Q (.bl (PyData.eqv d e)) H
def rNeX (K : Frag) : R2 := fun x y H Q => ∃ d e j1 j2, Dx K H j1 x d ∧ Dx K H j2 y e ∧ SeqAt.shaped d = true ∧ SeqAt.shaped e = true ∧ Q (.bl (!PyData.eqv d e)) H
theorem op_eqX (hu : X.A.units + 64 < cLine) : OpR X (compareOp .Eq) (rEqX X.K) := by
  intro pins s σ H x y v u Q I rx ry h
  obtain ⟨d, e, j1, j2, hd, he, sd, se, q⟩ := h
  obtain ⟨as, r1⟩ := Dx.reads I d x v hd rx
  obtain ⟨bs, r2⟩ := Dx.reads I e y u he ry
  exact SeqAt.compareEq_shaped r1 r2 sd se hu ⟨.bl (PyData.eqv d e), H, I, rfl, q⟩
theorem op_neX (hu : X.A.units + 64 < cLine) : OpR X (compareOp .NotEq) (rNeX X.K) := by
  intro pins s σ H x y v u Q I rx ry h
  obtain ⟨d, e, j1, j2, hd, he, sd, se, q⟩ := h
  obtain ⟨as, r1⟩ := Dx.reads I d x v hd rx
  obtain ⟨bs, r2⟩ := Dx.reads I e y u he ry
  exact SeqAt.compareNe_shaped r1 r2 sd se hu ⟨.bl (!PyData.eqv d e), H, I, rfl, q⟩
end
/-! ### tuples of data: slices, sums -/
section
variable {K : Frag} {H H' : Hp} {j a b p : Addr} {o : HO}
theorem DxAll.len' : ∀ {vs : List V} {ds : List PyData}, DxAll K H j vs ds → vs.length = ds.length
  | _, _, .nil => rfl
  | _, _, .cons _ t => by rw [List.length_cons, List.length_cons, DxAll.len' t]
theorem DxAll.take' : ∀ {vs : List V} {ds : List PyData} (n : Nat), DxAll K H j vs ds → DxAll K H j (vs.take n) (ds.take n)
  | _, _, 0, _ => .nil
  | _, _, _ + 1, .nil => .nil
  | _, _, n + 1, .cons h t => .cons h (DxAll.take' n t)
theorem DxAll.drop' : ∀ {vs : List V} {ds : List PyData} (n : Nat), DxAll K H j vs ds → DxAll K H j (vs.drop n) (ds.drop n)
  | _, _, 0, h => h
  | _, _, _ + 1, .nil => .nil
  | _, _, n + 1, .cons _ t => DxAll.drop' n t
theorem DxAll.app' : ∀ {vs ws : List V} {ds es : List PyData}, DxAll K H j vs ds → DxAll K H j ws es → DxAll K H j (vs ++ ws) (ds ++ es)
  | _, _, _, _, .nil, h => h
  | _, _, _, _, .cons h t, g => .cons h (DxAll.app' t g)
def cutD (ds : List PyData) (lo hi : Option Int) : List PyData := (ds.drop (HT.sIx ds.length 0 lo)).take (HT.sIx ds.length ds.length hi - HT.sIx ds.length 0 lo)
theorem new_tup' {xs : List V} {ds : List PyData} (hj : H j = some o) (hp : H p = none) (h : DxAll K H j xs ds) : Dx K (upd H p (.tup xs)) j (.ref p) (.tuple ds) :=
  .tup (ne_of_none hj hp).symm (.inl (.inl upd_same)) (DxAll.keep (Eff.same (same_new hp)) ds xs h)
theorem rd_slT {ds : List PyData} {lo hi : Option Int} {Q : VK} (hj : H j = some o) (hx : Dx K H j (.ref a) (.tuple ds)) (q : ∀ v H', Dx K H' j v (.tuple (cutD ds lo hi)) → Same H H' → Q v H') : rSlA K (.ref a) lo hi H Q := by
  cases hx with
  | @tup _ xs _ n s t =>
    have el := t.len'
    refine ⟨a, xs, rfl, s, fun hw => q _ _ ?_ (Same.refl H), fun _ p np => q _ _ ?_ (same_new np)⟩
    · have e : cutD ds lo hi = ds := by
        unfold cutD
        rw [← el, hw.1, hw.2, List.drop_zero]
        exact List.take_of_length_le (by omega)
      rw [e]
      exact .tup n s t
    · have t2 : DxAll K H j (cutV xs lo hi) (cutD ds lo hi) := by
        unfold cutV cutD
        rw [el]
        exact DxAll.take' _ (DxAll.drop' _ t)
      exact new_tup' hj np t2
theorem rd_catT {ds es : List PyData} {Q : VK} (hj : H j = some o) (hx : Dx K H j (.ref a) (.tuple ds)) (hy : Dx K H j (.ref b) (.tuple es)) (hz : ds.length + es.length ≤ 100000)
    (q : ∀ v H', Dx K H' j v (.tuple (ds ++ es)) → Same H H' → Q v H') : rCatA K (.ref a) (.ref b) H Q := by
  cases hx with
  | @tup _ xs _ n s t =>
    cases hy with
    | @tup _ ys _ n2 s2 t2 =>
      have e1 := t.len'
      have e2 := t2.len'
      refine ⟨a, b, xs, ys, rfl, rfl, s, s2, Nat.le_trans (show xs.length + ys.length ≤ 100000 by omega) (by decide), fun z => ?_, fun _ z => ?_, fun _ _ p np => q _ _ (new_tup' hj np (DxAll.app' t t2)) (same_new np)⟩
      · subst z
        cases t
        exact q _ _ (.tup n2 s2 t2) (Same.refl H)
      · subst z
        cases t2
        rw [List.append_nil] at q
        exact q _ _ (.tup n s t) (Same.refl H)
end
/-! ### the end of a law in which no repr runs around -/
theorem law_gd {P : Program} {w : World} {K : Frag} {mg mb : Str → Option Value} {CX : CXT} {k : Nat} {fa a : Addr} {fd : FuncData} {x : Str} {sp : Sp} {s₁ : Shared} {vs : List Value} {ns : List Int}
    (KX : K.In s₁.heap) (hns : s₁.heap.Ns mainGlobals mg) (hb : s₁.heap.Ns builtinsNs mb) (hbb : ∀ x : Str, x ≠ "__name__" → mb x = bootBuiltins x) (lim : s₁.heap.NoLimit) (hg : s₁.gens = #[])
    (ha : s₁.heap.get? a = some { cls := .type "list", data := .seq vs.toArray }) (hi : IntsAre vs ns) (hl : ns.length ≤ sizeLine) (hr : Room k callerA)
    (F : ∀ base : Heap, K.In base → base.Ns mainGlobals mg → FnG P w K mg base CX k fa fd [x] sp) (hbind : ∀ (s : Shared) (u : Value), BindsTo s fd ⟨[u], []⟩ [(x, u)])
    (hsp : ∀ H : Hp, Only H → SqL K H a (ns.map V.int) → sp [.ref a] H (fun v _ => v = .bl true) fun _ _ _ => False) (hCX : ∀ H e s', CX [] H s₁ (fun _ _ _ => False) e s' → False) :
    codeAny (model P w) callerA (.call (.ref fa) ⟨[.ref a], []⟩) (fun r s' => r = .ok (.ret (.bool true)) ∧ OldK s₁.heap s'.heap ∧ s'.os = s₁.os ∧ AllBare s'.gens) s₁ := by
  have rv : Vals (ns.map V.int) vs := L2.vals_ints hi
  have lv := hi.length
  have key : ∀ H : Hp, Only H → SqL K H a (ns.map V.int) → HOk P w H s₁.heap → (∀ b, H b ≠ none → b = a) → (H a ≠ none → K.lookup a = none) →
      codeAny (model P w) callerA (.call (.ref fa) ⟨[.ref a], []⟩) (fun r s' => r = .ok (.ret (.bool true)) ∧ OldK s₁.heap s'.heap ∧ s'.os = s₁.os ∧ AllBare s'.gens) s₁ := by
    intro H only hS hok one notK
    have plain : ∀ {b : Addr} {ob : Obj} {es : Array DictEntry} {ep : Nat}, s₁.heap.get? b = some ob → ob.data = .dict es ep → H b = none := by
      intro b ob es ep e d
      cases q : H b with
      | none => rfl
      | some u =>
        obtain rfl : b = a := one b (by rw [q]; simp)
        rw [ha] at e
        cases e
        exact nomatch (show Data.seq vs.toArray _ = Data.dict es ep from d)
    have ns2 : ∀ {b : Addr} {m : Str → Option Value}, s₁.heap.Ns b m → (hidT s₁.heap H).Ns b m := by
      rintro b m ⟨ob, es, ep, e, d, r⟩
      exact ⟨ob, es, ep, hidT_get e (plain e d), d, r⟩
    have kb : K.In (hidT s₁.heap H) := by
      intro b ob e
      refine hidT_get (KX b ob e) ?_
      cases q : H b with
      | none => rfl
      | some u =>
        obtain rfl : b = a := one b (by rw [q]; simp)
        rw [notK (by rw [q]; simp)] at e
        cases e
    obtain ⟨mc, l1, l2⟩ := lim
    have e0 : Env0 P w K mg (hidT s₁.heap H) callerA [] s₁ H := ⟨rfl, ⟨kb, ns2 hns, ⟨mb, ns2 hb, hbb⟩, ⟨mc, ns2 l1, l2⟩⟩, fun b ob e => of_hidT e, Nat.le_of_eq (hidT_size _ _), trivial,
      (fun b z => nomatch (show b ∈ ([] : List Addr) from z)), hok, .of_eq hg⟩
    refine codeAny_mono ((F _ kb (ns2 hns)).go callerA [] s₁ H ⟨[.ref a], []⟩ [.ref a] [.ref a] _ _ rfl hr e0 (hbind s₁ (.ref a)) (.cons rfl .nil) (hsp H only hS)) (fun r s' h => ?_)
    cases r with
    | error e => exact (hCX H e s' h).elim
    | ok fl =>
      cases fl with
      | next => exact False.elim h
      | brk => exact False.elim h
      | cont => exact False.elim h
      | ret u =>
        obtain ⟨v, H', os, bare, un, hok', r', q⟩ := h
        obtain rfl : v = .bl true := q
        obtain rfl : u = Value.bool true := r'
        refine ⟨rfl, OldK.of_keep (fun b ob e => ?_), os, bare⟩
        cases q : H b with
        | none => exact un.keep b ob e q (fun z => nomatch (show b ∈ ([] : List Addr) from z)) (by simp)
        | some u =>
          cases only b with
          | inl z =>
            rw [q] at z
            cases z
          | inr z =>
            obtain ⟨o1, xs, z⟩ := z
            obtain ⟨e1, _⟩ := hok b _ z
            obtain ⟨e2, _⟩ := hok' b _ (un.frzs b o1 _ z)
            rw [e] at e1
            cases e1
            exact e2
  cases hk : K.lookup a with
  | some ob =>
    have e := KX a ob hk
    rw [ha] at e
    cases e
    exact key (fun _ => none) (fun _ => .inl rfl) (.inr ⟨_, vs.toArray, _, hk, rfl, rfl, rfl, (by rw [List.size_toArray, lv]; exact hl), by simpa using rv⟩) (fun b u z => nomatch (show (none : Option HO) = some u from z)) (fun b z => absurd rfl z) (fun z => absurd rfl z)
  | none =>
    refine key (fun b => if b = a then some (.frz { cls := .type "list", data := .seq vs.toArray } (.lst (ns.map V.int))) else none) (fun b => ?_) (.inl (.inr ⟨{ cls := .type "list", data := .seq vs.toArray }, if_pos rfl⟩)) (fun b u z => ?_) (fun b z => ?_) (fun _ => hk)
    · by_cases h : b = a
      · exact .inr ⟨_, _, if_pos h⟩
      · exact .inl (if_neg h)
    · by_cases h : b = a
      · have z2 := (if_pos h).symm.trans z
        cases z2
        subst h
        exact ⟨ha, (by rw [List.length_map]; exact hl), vs, _, rv, ha⟩
      · exact nomatch ((if_neg h).symm.trans z)
    · by_cases h : b = a
      · exact h
      · exact absurd (if_neg h) z
theorem walk_gd {l : PySem.W.OpenLaw} {n k : Nat} {q : Program} {loose : List Str} {XP : (Str → Option Value) → Heap → Prop} {YP : World → Heap → Prop} {d : DefRec} {K : Params → Frag} {CX : World → CXT} {sp : World → Sp} {x : Str}
    (hn : l.most = some n) (hn2 : n ≤ sizeLine) (hdf : d.params.defaults = []) (hr : Room k callerA) (hY : ∀ (w : World) (h : Heap), YP w h → (K w.params).In h)
    (F : ∀ (w : World) (mg : Str → Option Value) (fa : Addr) (h : Heap), (K w.params).In h → h.Ns mainGlobals mg → mg d.name = some (.ref fa) →
      ∃ fd : FuncData, (∀ (s : Shared) (u : Value), BindsTo s fd ⟨[u], []⟩ [(x, u)]) ∧ ∀ base : Heap, (K w.params).In base → base.Ns mainGlobals mg → FnG l.prog w (K w.params) mg base (CX w) k fa fd [x] (sp w))
    (hsp : ∀ (w : World) (H : Hp) (a : Addr) (ns : List Int), ns.length ≤ n → Only H → SqL (K w.params) H a (ns.map V.int) → sp w [.ref a] H (fun v _ => v = .bl true) fun _ _ _ => False)
    (hCX : ∀ (w : World) (H : Hp) (s : Shared) (e : Value) (s' : Shared), CX w [] H s (fun _ _ _ => False) e s' → False) : PySem.W.WalkO q loose XP YP l.row.toRowW d [] (fun f vs => PySem.call f vs) := by
  refine Att.attach_call hn hdf (fun w s₀ s₁ mg mb fa o pm cd doc a vs ns G Y ho hd hcd hmg hobj hints hlen hg => ?_)
  have kx := hY w _ Y
  obtain ⟨fd, hb, hF⟩ := F w mg fa _ kx G.T.g hmg
  exact law_gd kx G.T.g G.T.b G.T.builtins G.T.nolimit hg hobj hints (Nat.le_trans hlen hn2) hr hF hb (fun H only hS => hsp w H a ns hlen only hS) (fun H e s' => hCX w H s₁ e s')
end Cv

/-! part K01T -/
set_option maxRecDepth 100000
set_option maxHeartbeats 4000000
namespace Cv
open PySem PySem.Spec PyProof.Rows L2
def topS (i : Nat) : Stmt := PySem.Challenge.pw_copyover_k01_copies_and_scripts_judged.main.body.getD i (.Pass ⟨0, 0, 0, 0⟩)
abbrev sName : Stmt := topS 2
abbrev sCopy : Stmt := topS 6
abbrev sScript : Stmt := topS 7
abbrev sJar : Stmt := topS 9
abbrev sDip : Stmt := topS 10
abbrev sNames : Stmt := topS 11
abbrev sPlan : Stmt := topS 12
abbrev sIsC : Stmt := topS 13
abbrev sOdd : Stmt := topS 14
abbrev sLaw : Stmt := topS 15
/-- the built-in names that the text leaves alone -/
structure Bl (mg : Str → Option Value) : Prop where
  len : mg "len" = none
  list : mg "list" = none
  tuple : mg "tuple" = none
  range : mg "range" = none
  abs : mg "abs" = none
  max : mg "max" = none
  min : mg "min" = none
  int : mg "int" = none
  isi : mg "isinstance" = none
  str : mg "str" = none
  all : mg "all" = none
  repr : mg "repr" = none
end Cv

/-! part K01A -/
set_option maxRecDepth 100000
set_option maxHeartbeats 4000000
namespace Cv
open PySem PySem.Spec PyProof.Rows L2
/-! ### draws -/
/-- what a jar holds: the digits left, the seed, the count (at most n) -/
def JarL (l : List V) (n : Nat) : Prop := ∃ x y z : Int, l = [.int x, .int y, .int z] ∧ 0 ≤ x ∧ 0 ≤ y ∧ y < 10 ^ 39 ∧ 0 ≤ z ∧ z ≤ n
def spDip : Sp := fun vs H Q _ => ∃ (j : Addr) (l : List V) (m : Int) (n : Nat), vs = [.ref j, .int m] ∧ H j = some (.lst l) ∧ JarL l n ∧ n ≤ 10 ^ 9 ∧ 1 ≤ m ∧ m < 2 ^ 70 ∧
  ∀ (r : Int) (l' : List V), 0 ≤ r → r < m → JarL l' (n + 1) → Q (.int r) (upd H j (.lst l'))
section
variable {P : Program} {w : World} {K : PySem.W.Frag} {mg : Str → Option Value} {base : Heap}
theorem scD : FnScope ["jar", "many", "digit", "mixed"] ["jar", "many"] (defScope sDip) := ⟨rfl, rfl, rfl, by decide +kernel, rfl, by decide +kernel, by decide +kernel⟩
theorem sqOf {H : Hp} {a : Addr} {xs : List V} (h : H a = some (.lst xs)) : SqL K H a xs := .inl (.inl h)
theorem stOf {H : Hp} {a : Addr} {xs : List V} (h : H a = some (.tup xs)) : SqT K H a xs := .inl (.inl h)
theorem p41 : (0 : Int) < 10 ^ (41 : Int).toNat + 37 := by decide
theorem p40 : (0 : Int) < 10 ^ (40 : Int).toNat + 121 := by decide
theorem p6 : (0 : Int) < 10 ^ (6 : Int).toNat ∧ (10 : Int) ^ (6 : Int).toNat < 1073741824 := by decide
theorem e41 : (10 : Int) ^ (41 : Int).toNat + 37 = 100000000000000000000000000000000000000037 := by decide
theorem e40 : (10 : Int) ^ (40 : Int).toNat + 121 = 10000000000000000000000000000000000000121 := by decide
theorem bitsLe {i : Int} {n k : Nat} (h0 : 0 ≤ i) (h : i < 2 ^ n) (hk : n * k ≤ 2 ^ 27) (hk0 : 0 ≤ (k : Int)) : 0 ≤ (k : Int) ∧ (Builtin.Int.intBits i : Int) * (k : Int) ≤ 2 ^ 27 := by
  have h1 : i.natAbs < 2 ^ n := by
    have e : ((2 : Int) ^ n) = ((2 ^ n : Nat) : Int) := by simp
    omega
  have h2 := bits_of h1
  refine ⟨hk0, ?_⟩
  have h3 : Builtin.Int.intBits i * k ≤ 2 ^ 27 := Nat.le_trans (Nat.mul_le_mul_right k h2) hk
  have h4 : ((Builtin.Int.intBits i * k : Nat) : Int) ≤ ((2 ^ 27 : Nat) : Int) := by exact_mod_cast h3
  simpa using h4
theorem bitsMix {t M c : Int} (hM : 0 < M) (hM2 : M ≤ 2 ^ 139) (hc : 0 ≤ c) (hc2 : c < 2 ^ 100) : 0 ≤ (2 : Int) ∧ (Builtin.Int.intBits (t % M + c) : Int) * 2 ≤ 2 ^ 27 := by
  have a1 := Int.emod_nonneg t (show M ≠ 0 by omega)
  have a2 := Int.emod_lt_of_pos t hM
  exact bitsLe (n := 140) (k := 2) (by omega) (by omega) (by decide) (by decide)
theorem ok_dip {f : Addr} {fd : FuncData} (F : Fun K "_law_dip" "_law_dip" sDip f fd) : FnOk P w K mg base CX0 1 f fd ["jar", "many"] spDip := by
  refine F.ok scD (fun vs H Q E h => ?_) (fun cdv A outer s H vs Q E hr h => ?_)
  · obtain ⟨j, l, m, n, rfl, _⟩ := h
    rfl
  · obtain ⟨j, l, m, n, rfl, hj, ⟨x, y, z, rfl, hx, hy, hy2, hz, hz2⟩, hn, hm, hm2, q⟩ := h
    refine ⟨_, pss_cons (ps_if (pt_cmpR op_gt (pe_ix ix_list (pv 0) pe_int (fun _ _ => rfl)) pe_int (nomark _))
        (pss_cons (ps_set (i := 2) scD.nd rfl (.inl rfl) (pe_op op_mod (pe_ix ix_list (pv 0) pe_int (fun _ _ => rfl)) (pv 1)))
        (pss_cons (ps_asg (pe_op op_fdivW (pe_ix ix_list (pv 0) pe_int (fun _ _ => rfl)) (pv 1)) (pg_sub (pv 0) pe_int set_list))
        (pss_one (ps_ret (pv 2))))) pss_nil)
      (pss_cons (ps_asg (pe_op op_add (pe_ix ix_list (pv 0) pe_int (fun _ _ => rfl)) pe_int) (pg_sub (pv 0) pe_int set_list))
      (pss_cons (ps_set (i := 3) scD.nd rfl (.inl rfl) (pe_op op_mod (pe_op op_powB (pe_op op_add (pe_ix ix_list (pv 0) pe_int (fun _ _ => rfl)) (pe_op op_mul pe_int (pe_ix ix_list (pv 0) pe_int (fun _ _ => rfl)))) pe_int) (pe_op op_add (pe_op op_pow pe_int pe_int) pe_int)))
      (pss_cons (ps_set (i := 3) scD.nd rfl (.inl rfl) (pe_op op_mod (pe_op op_powB (pe_op op_add (pv 3) (pe_op op_mul pe_int (pe_ix ix_list (pv 0) pe_int (fun _ _ => rfl)))) pe_int) (pe_op op_add (pe_op op_pow pe_int pe_int) pe_int)))
      (pss_one (ps_ret (pe_op op_mod (pe_op op_fdiv (pv 3) (pe_op op_pow pe_int pe_int)) (pv 1))))))), ?_⟩
    have S0 := sqOf (K := K) hj
    -- jar[0] > 0
    refine ⟨_, rfl, j, _, 0, _, rfl, rfl, S0, rfl, x, 0, rfl, rfl, _, rfl, ite2 (fun hgt => ?_) (fun hng => ?_)⟩
    · have hgt' : 0 < x := of_decide_eq_true hgt
      have hd : CDivW x m := wide_div (by omega) (b := 70) (by omega) (by decide) (by decide)
      refine ⟨_, rfl, j, _, 0, _, rfl, rfl, S0, rfl, _, rfl, x, m, rfl, rfl, (show (0 : Int) < m by omega), ?_⟩
      refine ⟨_, rfl, j, _, 0, _, rfl, rfl, S0, rfl, _, rfl, x, m, rfl, rfl, hd, ?_⟩
      refine ⟨_, rfl, j, _, 0, 0, rfl, rfl, hj, rfl, ?_⟩
      refine ⟨_, rfl, q _ _ (Int.emod_nonneg x (by omega)) (Int.emod_lt_of_pos x (by omega)) ⟨x / m, y, z, rfl, Int.ediv_nonneg hx (by omega), hy, hy2, hz, by omega⟩⟩
    · -- jar[2] = jar[2] + 1
      refine ⟨_, rfl, j, _, 2, _, rfl, rfl, S0, rfl, z, 1, rfl, rfl, ?_⟩
      refine ⟨_, rfl, j, _, 2, 2, rfl, rfl, hj, rfl, ?_⟩
      have S1 := sqOf (K := K) (upd_same (H := H) (a := j) (o := .lst [.int x, .int y, .int (z + 1)]))
      -- mixed, twice
      refine ⟨_, rfl, j, _, 1, _, rfl, rfl, S1, rfl, _, rfl, j, _, 2, _, rfl, rfl, S1, rfl, 675248027, z + 1, rfl, rfl, .inl ⟨by decide, by decide⟩, y, _, rfl, rfl, ?_⟩
      refine ⟨_, 3, rfl, rfl, bitsLe (n := 131) (k := 3) (by omega) (by omega) (by decide) (by decide), ?_⟩
      refine ⟨10, 41, rfl, rfl, ⟨by decide, by decide, by decide⟩, _, 37, rfl, rfl, _, _, rfl, rfl, p41, ?_⟩
      refine ⟨_, rfl, _, rfl, j, _, 2, _, rfl, rfl, S1, rfl, 314606891, z + 1, rfl, rfl, .inl ⟨by decide, by decide⟩, _, _, rfl, rfl, ?_⟩
      refine ⟨_, 2, rfl, rfl, bitsMix p41 (by decide) (by omega) (by omega), ?_⟩
      refine ⟨10, 40, rfl, rfl, ⟨by decide, by decide, by decide⟩, _, 121, rfl, rfl, _, _, rfl, rfl, p40, ?_⟩
      refine ⟨_, rfl, 10, 6, rfl, rfl, ⟨by decide, by decide, by decide⟩, _, _, rfl, rfl, p6, _, rfl, _, m, rfl, rfl, (show (0 : Int) < m by omega), ?_⟩
      exact q _ _ (Int.emod_nonneg _ (by omega)) (Int.emod_lt_of_pos _ (by omega)) ⟨x, y, z + 1, rfl, hx, hy, hy2, by omega, by omega⟩
end
end Cv

/-! part K01B -/
set_option maxRecDepth 100000
set_option maxHeartbeats 4000000
namespace Cv
open PySem PySem.Spec PyProof.Rows L2
def spJar (K : PySem.W.Frag) : Sp := fun vs H Q _ => ∃ (a : Addr) (ns : List Int) (k : Int), vs = [.ref a, .int k] ∧ SqL K H a (ns.map V.int) ∧ ns.length ≤ 63 ∧ 0 ≤ k ∧ k ≤ 100 ∧
  ∀ (p : Addr) (l : List V), JarL l 0 → H p = none → Q (.ref p) (upd H p (.lst l))
section
variable {P : Program} {w : World} {K : PySem.W.Frag} {mg : Str → Option Value} {base : Heap}
theorem scJ : FnScope ["cells", "k", "cell"] ["cells", "k"] (defScope sJar) := ⟨rfl, rfl, rfl, by decide +kernel, rfl, by decide +kernel, by decide +kernel⟩
theorem p38 : (0 : Int) < 10 ^ (38 : Int).toNat + 133 := by decide
theorem e38 : (10 : Int) ^ (38 : Int).toNat + 133 ≤ 10 ^ 39 := by decide
theorem atI_lt {ns : List Int} {i : Int} (h0 : 0 ≤ i) (h : i < ns.length) : ∃ z, atI (ns.map V.int) i = some (V.int z) := by
  obtain ⟨m, rfl⟩ : ∃ m : Nat, i = (m : Int) := ⟨i.toNat, by omega⟩
  have hm : m < ns.length := by omega
  exact ⟨ns[m], atI_nat (by rw [List.getElem?_map, List.getElem?_eq_getElem hm]; rfl)⟩
theorem ok_jar {f : Addr} {fd : FuncData} (F : Fun K "_law_jar" "_law_jar" sJar f fd) (B : Bl mg) : FnOk P w K mg base CX0 1 f fd ["cells", "k"] (spJar K) := by
  refine F.ok scJ (fun vs H Q E h => ?_) (fun cdv A outer s H vs Q E hr h => ?_)
  · obtain ⟨a, ns, k, rfl, _⟩ := h
    rfl
  · obtain ⟨a, ns, k, rfl, ha, hl, hk0, hk, q⟩ := h
    refine ⟨_, pss_cons (ps_set (i := 2) scJ.nd rfl (.inl rfl) (pe_ifExp (pt_cmpR op_lt (pv 1) (pe_callB call_len_seq (by rfl) B.len PySem.boot_len (pa_cons (pv 0) pa_nil)) (nomark _)) (pe_ix ix_list (pv 0) (pv 1) (fun _ _ => rfl)) pe_int))
      (pss_one (ps_ret (pe_lst (pa_cons (pe_callB (call_max2 rfl) (by rfl) B.max (by decide +kernel) (pa_cons pe_int (pa_cons (pe_op op_sub (pe_callB call_abs (by rfl) B.abs (by decide +kernel) (pa_cons (pv 2) pa_nil)) (pe_op op_pow pe_int pe_int)) pa_nil)))
        (pa_cons (pe_op op_mod (pe_op op_add (pe_op op_add (pe_op op_mul (pv 2) pe_int) (pe_op op_mul pe_int (pv 1))) pe_int) (pe_op op_add (pe_op op_pow pe_int pe_int) pe_int)) (pa_cons pe_int pa_nil)))))), ?_⟩
    refine ⟨_, rfl, .ref a, rfl, a, _, rfl, .inl ha, _, _, rfl, rfl, _, rfl, ite2 (fun c => ?_) (fun c => ?_)⟩
    · have c' : k < ((ns.map V.int).length : Int) := of_decide_eq_true c
      rw [List.length_map] at c'
      obtain ⟨z, hz⟩ := atI_lt hk0 c'
      refine ⟨_, rfl, _, rfl, a, _, _, _, rfl, rfl, ha, hz, ?_⟩
      refine ⟨.int z, rfl, z, rfl, 10, 18, rfl, rfl, ⟨by decide, by decide, by decide⟩, _, _, rfl, rfl, 0, _, rfl, ?_⟩
      refine ⟨_, rfl, z, 83, rfl, rfl, .inr ⟨by decide, by decide⟩, _, rfl, 19, k, rfl, rfl, .inl ⟨by decide, by decide⟩, _, _, rfl, rfl, _, 11, rfl, rfl, ?_⟩
      refine ⟨10, 38, rfl, rfl, ⟨by decide, by decide, by decide⟩, _, 133, rfl, rfl, _, _, rfl, rfl, p38, by show 3 ≤ sizeLine; decide, fun p np => ?_⟩
      exact q p _ ⟨_, _, 0, rfl, by split <;> omega, Int.emod_nonneg _ (by decide), Int.lt_of_lt_of_le (Int.emod_lt_of_pos _ p38) e38, by decide, by decide⟩ np
    · refine ⟨.int 0, rfl, 0, rfl, 10, 18, rfl, rfl, ⟨by decide, by decide, by decide⟩, _, _, rfl, rfl, 0, _, rfl, ?_⟩
      refine ⟨_, rfl, 0, 83, rfl, rfl, .inr ⟨by decide, by decide⟩, _, rfl, 19, k, rfl, rfl, .inl ⟨by decide, by decide⟩, _, _, rfl, rfl, _, 11, rfl, rfl, ?_⟩
      refine ⟨10, 38, rfl, rfl, ⟨by decide, by decide, by decide⟩, _, 133, rfl, rfl, _, _, rfl, rfl, p38, by show 3 ≤ sizeLine; decide, fun p np => ?_⟩
      exact q p _ ⟨_, _, 0, rfl, by split <;> omega, Int.emod_nonneg _ (by decide), Int.lt_of_lt_of_le (Int.emod_lt_of_pos _ p38) e38, by decide, by decide⟩ np
end
end Cv

/-! part K01C -/
set_option maxRecDepth 100000
set_option maxHeartbeats 4000000
namespace Cv
open PySem PySem.Spec PyProof.Rows L2
/-! ### names -/
def IsNm (y : Str) : Prop := 1 ≤ y.length ∧ y.length ≤ 8 ∧ ∀ c ∈ y.cps.toList, 97 ≤ c ∧ c ≤ 122
def Names (ys : List Str) (m : Int) : Prop := (ys.length : Int) = m ∧ ys.Nodup ∧ ∀ y ∈ ys, IsNm y
def spNames : Sp := fun vs H Q _ => ∃ (j : Addr) (l : List V) (m : Int) (n : Nat), vs = [.ref j, .int m] ∧ H j = some (.lst l) ∧ JarL l n ∧ n ≤ 10 ^ 8 ∧ 1 ≤ m ∧ m ≤ 20 ∧
  ∀ (p : Addr) (ys : List Str) (l' : List V) (H' : Hp), Names ys m → H' p = some (.tup (ys.map V.str)) → H' j = some (.lst l') → JarL l' (n + 200) → Eff j H H' → Q (.ref p) H'
/-- one sign -/
def sg (c : Nat) : Str := ⟨#[c]⟩
theorem JarL.mono {l : List V} {n n' : Nat} (h : JarL l n) (hn : n ≤ n') : JarL l n' := by
  obtain ⟨x, y, z, e, a, b, c, d, f⟩ := h
  exact ⟨x, y, z, e, a, b, c, d, by omega⟩
theorem erase_map {α β : Type} (f : α → β) : ∀ (l : List α) (k : Nat), (l.map f).eraseIdx k = (l.eraseIdx k).map f
  | [], _ => rfl
  | _ :: _, 0 => rfl
  | a :: l, k + 1 => by
    show f a :: (l.map f).eraseIdx k = f a :: (l.eraseIdx k).map f
    rw [erase_map f l k]
theorem erase_out {α : Type} : ∀ (l : List α) (k : Nat) (a : α), l.Nodup → l[k]? = some a → a ∉ l.eraseIdx k
  | [], _, _, _, h => by simp at h
  | b :: l, 0, a, nd, h => by
    have e : b = a := Option.some.inj h
    subst e
    exact (List.nodup_cons.mp nd).1
  | b :: l, k + 1, a, nd, h => by
    have h' : l[k]? = some a := h
    intro m
    rcases List.mem_cons.mp (show a ∈ b :: l.eraseIdx k from m) with e | m
    · subst e
      exact (List.nodup_cons.mp nd).1 (List.mem_of_getElem? h')
    · exact erase_out l k a (List.nodup_cons.mp nd).2 h' m
theorem erase_len {α : Type} : ∀ (l : List α) (k : Nat), k < l.length → (l.eraseIdx k).length + 1 = l.length
  | [], _, h => by simp at h
  | _ :: l, 0, _ => rfl
  | _ :: l, k + 1, h => by
    show (l.eraseIdx k).length + 1 + 1 = l.length + 1
    rw [erase_len l k (by simpa using h)]
theorem pick4 {r : Int} (h0 : 0 ≤ r) (h : r < 4) : ∃ s : Int, atI [V.int 0, V.int 0, V.int 1, V.int 7] r = some (.int s) ∧ 0 ≤ s ∧ s ≤ 7 := by
  have h4 : r = 0 ∨ r = 1 ∨ r = 2 ∨ r = 3 := by omega
  rcases h4 with rfl | rfl | rfl | rfl
  · exact ⟨0, rfl, by decide, by decide⟩
  · exact ⟨0, rfl, by decide, by decide⟩
  · exact ⟨1, rfl, by decide, by decide⟩
  · exact ⟨7, rfl, by decide, by decide⟩
theorem abzC : (Str.ofString "abz").cps.toList = [97, 98, 122] := by decide +kernel
theorem pick3 {r : Int} (h0 : 0 ≤ r) (h : r < 3) : ∃ c : Nat, atI (Str.ofString "abz").cps.toList r = some c ∧ 97 ≤ c ∧ c ≤ 122 := by
  rw [abzC]
  have h4 : r = 0 ∨ r = 1 ∨ r = 2 := by omega
  rcases h4 with rfl | rfl | rfl
  · exact ⟨97, rfl, by decide, by decide⟩
  · exact ⟨98, rfl, by decide, by decide⟩
  · exact ⟨122, rfl, by decide, by decide⟩
theorem atI_in {α : Type} {xs : List α} {i : Int} (h0 : 0 ≤ i) (h : i < xs.length) : ∃ (m : Nat) (x : α), i = (m : Int) ∧ xs[m]? = some x ∧ atI xs i = some x := by
  obtain ⟨m, rfl⟩ : ∃ m : Nat, i = (m : Int) := ⟨i.toNat, by omega⟩
  have hm : m < xs.length := by omega
  exact ⟨m, xs[m], rfl, List.getElem?_eq_getElem hm, atI_nat (List.getElem?_eq_getElem hm)⟩
theorem seqIx_nat {m n : Nat} (h : m < n) : seqIndex? (m : Int) n = some m := by
  unfold seqIndex?
  simp only []
  split <;> first | omega | (simp; omega) | simp_all
/-- the text of letters, glued -/
theorem glue_ok {cs : List Nat} (hc : ∀ c ∈ cs, 97 ≤ c ∧ c ≤ 122) : (Txt.join (Str.ofString "") (cs.map sg)).length = cs.length ∧ ∀ c ∈ (Txt.join (Str.ofString "") (cs.map sg)).cps.toList, 97 ≤ c ∧ c ≤ 122 := by
  constructor
  · rw [PySem.W.KT.join_ones]
    · rw [List.length_map]
    · intro a ha
      obtain ⟨c, _, rfl⟩ := List.mem_map.mp ha
      rfl
  · intro c h
    have e : Txt.join (Str.ofString "") (cs.map sg) = Str.join (Str.ofString "") (cs.map sg) := by
      have := PyProof.Rows.join_plain_closes (Str.ofString "") (cs.map sg)
      simpa using this
    rw [e, PyProof.Rows.mem_join] at h
    rcases h with ⟨t, ht, hct⟩ | ⟨_, hct⟩
    · obtain ⟨d, hd, rfl⟩ := List.mem_map.mp ht
      have : c = d := by simpa [sg] using hct
      subst this
      exact hc c hd
    · rw [show (Str.ofString "").cps.toList = [] by decide +kernel] at hct
      exact nomatch hct
/-- a front and a letter -/
theorem nm_of {x : Str} {c : Nat} (hx : x.length ≤ 7) (hl : ∀ c ∈ x.cps.toList, 97 ≤ c ∧ c ≤ 122) (hc : 97 ≤ c ∧ c ≤ 122) : IsNm (x ++ sg c) ∧ (x ++ sg c).cps.toList.getLast? = some c := by
  have e : (x ++ sg c).cps.toList = x.cps.toList ++ [c] := by
    rw [Str.cps_append, Array.toList_append]
    rfl
  have el : (x ++ sg c).length = x.length + 1 := by
    rw [strLen_append]
    rfl
  refine ⟨⟨by omega, by omega, fun d hd => ?_⟩, by rw [e]; simp⟩
  rw [e] at hd
  rcases List.mem_append.mp hd with h | h
  · exact hl d h
  · have : d = c := by simpa using h
    subst this
    exact hc
end Cv

/-! part K01D -/
set_option maxRecDepth 100000
set_option maxHeartbeats 4000000
namespace Cv
open PySem PySem.Spec PyProof.Rows L2
section
variable {P : Program} {w : World} {K : PySem.W.Frag} {mg : Str → Option Value} {base : Heap}
theorem scN : FnScope ["jar", "many", "left", "found", "turn", "size", "front", "step"] ["jar", "many"] (defScope sNames) := ⟨rfl, rfl, rfl, by decide +kernel, rfl, by decide +kernel, by decide +kernel⟩
/-- between two turns -/
structure NmSt (H0 H : Hp) (j L Fd : Addr) (n i : Nat) (cs : List Nat) (fs : List Str) (l : List V) : Prop where
  ej : Eff j H0 H
  hj : H j = some (.lst l)
  jl : JarL l (n + 9 * i)
  hL : H L = some (.lst (cs.map fun c => V.str (sg c)))
  hF : H Fd = some (.lst (fs.map V.str))
  nL : L ≠ j
  nF : Fd ≠ j
  nLF : L ≠ Fd
  fL : H0 L = none
  fF : H0 Fd = none
  cn : cs.Nodup
  cb : ∀ c ∈ cs, 97 ≤ c ∧ c ≤ 122
  cl : cs.length + i = 20
  fl : fs.length = i
  fn : fs.Nodup
  fb : ∀ y ∈ fs, IsNm y ∧ ∃ c, y.cps.toList.getLast? = some c ∧ c ∉ cs
theorem sg0 : (signs (Str.ofString "abcdefghijklmnopqrst")) = ((List.range 20).map fun i => 97 + i).map sg := by decide +kernel
theorem ok_names {f : Addr} {fd : FuncData} (F : Fun K "_law_names" "_law_names" sNames f fd) (B : Bl mg) (DD : Has P w K mg base CX0 1 "_law_dip" ["jar", "many"] spDip) :
    FnOk P w K mg base CX0 2 f fd ["jar", "many"] spNames := by
  refine F.ok scN (fun vs H Q E h => ?_) (fun cdv A outer s H vs Q E hr h => ?_)
  · obtain ⟨j, l, m, n, rfl, _⟩ := h
    rfl
  · obtain ⟨j, l, m, n, rfl, hj, jl, hn, hm, hm2, q⟩ := h
    refine ⟨_, pss_cons (ps_par (i := 2) (j := 3) rfl scN.nd rfl rfl (by decide) rfl rfl (pa_cons (pe_callTy (call_list_str rfl) (by rfl) B.list (by decide +kernel) (pa_cons pe_str pa_nil)) (pa_cons (pe_lst pa_nil) pa_nil)) rfl)
      (pss_cons (ps_for PassesOwn.never rfl (pi_range1 (by rfl) B.range (pa_cons (pv 1) pa_nil)) (pg_name (i := 4) scN.nd rfl (.inl rfl))
        (pss_cons (ps_set (i := 5) scN.nd rfl (.inl rfl) (pe_ix ix_list (pe_lst (pa_cons pe_int (pa_cons pe_int (pa_cons pe_int (pa_cons pe_int pa_nil))))) (pe_has DD hr pass0 (pa_cons (pv 0) (pa_cons pe_int pa_nil))) (fun _ _ => rfl)))
        (pss_cons (ps_set (i := 6) scN.nd rfl (.inl rfl) (pe_join pe_str (pe_lc (own := [("step", 7)]) (tt := tYes) rfl scN.nd (pi_range1 (by rfl) B.range (pa_cons (pv 5) pa_nil)) (blkOk_by (N := ["jar", "many", "left", "found", "turn", "size", "front", "step"]) (sc := defScope sNames) (by decide +kernel))
            (fun _ _ _ _ _ => pg_name (i := 7) scN.nd rfl (.inl rfl)) (fun _ _ _ _ _ => pts_nil) (fun _ _ _ _ _ => pe_ix ix_str pe_str (pe_has DD hr pass0 (pa_cons (pv 0) (pa_cons pe_int pa_nil))) (fun _ _ => rfl)))))
        (pss_one (ps_expr (pe_bm PySem.F.plainAttrs_list PySem.F.slot_list_append PySem.F.type_list_append mt_append (pv 3)
          (pa_cons (pe_op op_add_str (pv 6) (pe_bm PySem.F.plainAttrs_list PySem.F.slot_list_pop PySem.F.type_list_pop mt_popAt (pv 2)
            (pa_cons (pe_has DD hr pass0 (pa_cons (pv 0) (pa_cons (pe_callB call_len_seq (by rfl) B.len PySem.boot_len (pa_cons (pv 2) pa_nil)) pa_nil))) pa_nil))) pa_nil)))))))
      (pss_one (ps_ret (pe_callTy call_tuple_of (by rfl) B.tuple (by decide +kernel) (pa_cons (pv 3) pa_nil))))), ?_⟩
    -- left, found
    refine ⟨_, rfl, by decide +kernel, fun L nL => ⟨Nat.zero_le _, fun Fd nF => ⟨_, _, rfl, ?_⟩⟩⟩
    have nL0 : L ≠ j := (ne_of_none hj nL).symm
    have hj1 : upd H L (.lst ((signs (Str.ofString "abcdefghijklmnopqrst")).map V.str)) j = some (.lst l) := (upd_ne nL0.symm).trans hj
    have nF0 : Fd ≠ j := (ne_of_none hj1 nF).symm
    have nLF : L ≠ Fd := ne_of_none upd_same nF
    have fF : H Fd = none := (upd_ne (H := H) nLF.symm).symm.trans nF
    refine ⟨_, rfl, m, rfl, by omega, by omega, ?_⟩
    refine for_range (lo := 0) (n := m.toNat) (fun i σ H' => ∃ x4 x5 x6 x7 cs fs l', σ = [some (.ref j), some (.int m), some (.ref L), some (.ref Fd), x4, x5, x6, x7] ∧ NmSt H H' j L Fd n i cs fs l') ?_ ?_ ?_
    · refine ⟨none, none, none, none, (List.range 20).map fun i => 97 + i, [], l, rfl, ?_⟩
      refine ⟨((Eff.refl j H).new nL).new fF, (upd_ne nF0.symm).trans hj1, by simpa using jl, ?_, upd_same, nL0, nF0, nLF, nL, fF, by decide, by decide, by decide, rfl, List.nodup_nil, fun y hy => nomatch hy⟩
      rw [upd_ne nLF, upd_same, sg0, List.map_map]
      rfl
    · rintro i σ H1 hi ⟨x4, x5, x6, x7, cs, fs, l1, rfl, S⟩
      have him : (i : Int) < 20 := by omega
      -- size
      refine ⟨by decide, fun p0 np0 => ?_⟩
      have p0j : p0 ≠ j := (ne_of_none S.hj np0).symm
      refine ⟨_, rfl, j, l1, 4, n + 9 * i, rfl, (upd_ne p0j.symm).trans S.hj, S.jl, by omega, by decide, by decide, fun r l2 r0 r1 jl2 => ?_⟩
      obtain ⟨sz, hsz, sz0, sz1⟩ := pick4 r0 r1
      refine ⟨p0, _, r, _, rfl, rfl, sqOf ((upd_ne p0j).trans upd_same), hsz, ?_⟩
      generalize hH2 : upd (upd H1 p0 (.lst [V.int 0, V.int 0, V.int 1, V.int 7])) j (.lst l2) = H2
      have e2 : Eff j H1 H2 := by rw [← hH2]; exact ((Eff.refl j H1).new np0).atj
      have hj2 : H2 j = some (.lst l2) := by rw [← hH2]; exact upd_same
      -- front
      refine ⟨⟨_, rfl⟩, _, rfl, sz, rfl, by omega, by omega, fun D nD => ?_⟩
      have nDj : D ≠ j := (ne_of_none hj2 nD).symm
      refine lc_it walk_range (fun i' H' => ∃ (ds : List Nat) (l' : List V), H' D = some (.lst (ds.map fun c => V.str (sg c))) ∧ ds.length = i' ∧ (∀ c ∈ ds, 97 ≤ c ∧ c ≤ 122) ∧ H' j = some (.lst l') ∧ JarL l' (n + 9 * i + 1 + i') ∧ Eff j H2 H')
        ⟨[], l2, upd_same, rfl, (fun _ q => nomatch q), (upd_ne nDj.symm).trans hj2, jl2, (Eff.refl j H2).new nD⟩ (fun _ _ _ _ => trivial) ?_ ?_
      · rintro i' x H3 H4 hi' ⟨ds, l3, hD, dl, db, hj3, jl3, e3⟩ ⟨rfl, rfl⟩
        refine ⟨rfl, ?_⟩
        refine ⟨_, rfl, j, l3, 3, n + 9 * i + 1 + i', rfl, hj3, jl3, by omega, by decide, by decide, fun r2 l4 r20 r21 jl4 => ?_⟩
        obtain ⟨c, hc, c0, c1⟩ := pick3 r20 r21
        refine ⟨_, r2, c, rfl, rfl, by decide +kernel, hc, ds.map (fun c => V.str (sg c)), (upd_ne nDj).trans hD, ?_, ?_⟩
        · rw [List.length_map, dl]
          exact small1000 (by omega)
        · refine ⟨ds ++ [c], l4, ?_, by simp [dl], ?_, (upd_ne nDj.symm).trans upd_same, jl4, ?_⟩
          · rw [upd_same, List.map_append]
            rfl
          · intro d hd
            rcases List.mem_append.mp hd with h | h
            · exact db d h
            · have : d = c := by simpa using h
              subst this
              exact ⟨c0, c1⟩
          · exact (e3.atj).new nD
      · rintro H3 ⟨ds, l3, hD, dl, db, hj3, jl3, e3⟩
        have e13 := e2.trans e3
        have hL3 := e13 L _ S.nL S.hL
        have hF3 := e13 Fd _ S.nF S.hF
        refine ⟨_, D, ds.map sg, rfl, rfl, .inl (sqOf (by rw [hD, List.map_map]; rfl)), ?_, ?_⟩
        · have : ((ds.map sg).map (·.length)).sum = ds.length := by
            rw [List.map_map]
            have : ∀ l : List Nat, (l.map ((·.length) ∘ sg)).sum = l.length := fun l => by
              induction l with
              | nil => rfl
              | cons a l ih => rw [List.map_cons, List.sum_cons, ih, List.length_cons]; show 1 + _ = _; omega
            exact this ds
          rw [this, show (Str.ofString "").length = 0 by decide +kernel]
          omega
        · obtain ⟨gl, gc⟩ := glue_ok db
          have gl7 : (Txt.join (Str.ofString "") (ds.map sg)).length ≤ 7 := by omega
          generalize Txt.join (Str.ofString "") (ds.map sg) = fr at gl gc gl7
          -- found.append(front + left.pop(..))
          refine ⟨_, rfl, .inl ⟨rfl, _, sqOf hF3⟩, _, rfl, _, rfl, .inl ⟨rfl, _, sqOf hL3⟩, _, rfl, _, rfl, L, _, rfl, .inl (sqOf hL3), ?_⟩
          have hlc : 0 < cs.length := by have := S.cl; omega
          refine ⟨j, l3, _, n + 9 * i + 1 + sz.toNat, rfl, hj3, jl3.mono (by omega), by omega, by rw [List.length_map]; omega, by rw [List.length_map]; have := S.cl; omega, fun r3 l4 r30 r31 jl4 => ?_⟩
          rw [List.length_map] at r31
          obtain ⟨k, c, rfl, hk, _⟩ := atI_in r30 r31
          have hkl : k < cs.length := by omega
          have cl := S.cl
          refine ⟨L, _, _, k, V.str (sg c), rfl, rfl, (upd_ne S.nL).trans hL3, by omega, by omega, by rw [List.length_map]; exact seqIx_nat hkl, by rw [List.getElem?_map, hk]; rfl, ?_⟩
          rw [erase_map]
          have cm : c ∈ cs := List.mem_of_getElem? hk
          obtain ⟨nm, nl⟩ := nm_of gl7 gc (S.cb c cm)
          refine ⟨fr, sg c, rfl, rfl, ?_, Fd, fs.map V.str, _, rfl, rfl, ?_, ?_, ?_⟩
          · show fr.length + 1 ≤ sizeLine
            exact Nat.le_trans (show fr.length + 1 ≤ 64 by omega) (by decide)
          · rw [upd_ne S.nLF.symm, upd_ne S.nF]
            exact hF3
          · rw [List.length_map, S.fl]
            exact small1000 (by omega)
          · refine ⟨_, _, _, _, cs.eraseIdx k, fs ++ [fr ++ sg c], l4, rfl, ?_⟩
            refine ⟨?_, ?_, jl4.mono (by omega), ?_, ?_, S.nL, S.nF, S.nLF, S.fL, S.fF, S.cn.sublist (List.eraseIdx_sublist _ _), fun d hd => S.cb d (List.mem_of_mem_eraseIdx hd), ?_, ?_, ?_, ?_⟩
            · exact (((S.ej.trans e13).atj).new S.fL).new S.fF
            · rw [upd_ne S.nF.symm, upd_ne S.nL.symm, upd_same]
            · rw [upd_ne S.nLF, upd_same]
            · rw [upd_same, List.map_append]
              rfl
            · have := erase_len cs k hkl
              omega
            · rw [List.length_append, S.fl]
              rfl
            · rw [List.nodup_append]
              refine ⟨S.fn, by simp, fun a ha b hb e => ?_⟩
              have hb' : b = fr ++ sg c := by simpa using hb
              obtain ⟨_, d, hd, hn⟩ := S.fb a ha
              rw [e, hb', nl] at hd
              have : c = d := Option.some.inj hd
              exact hn (this ▸ cm)
            · intro y hy
              rcases List.mem_append.mp hy with h | h
              · obtain ⟨h1, d, hd, hn⟩ := S.fb y h
                exact ⟨h1, d, hd, fun z => hn (List.mem_of_mem_eraseIdx z)⟩
              · have : y = fr ++ sg c := by simpa using h
                subst this
                exact ⟨nm, c, nl, erase_out cs k c S.cn hk⟩
    · rintro σ H1 ⟨x4, x5, x6, x7, cs, fs, l1, rfl, S⟩
      refine ⟨_, rfl, Fd, _, rfl, .inl ⟨sqOf S.hF, fun p np => ?_⟩⟩
      have pj : p ≠ j := (ne_of_none S.hj np).symm
      refine q p fs l1 _ ⟨by have := S.fl; omega, S.fn, fun y hy => (S.fb y hy).1⟩ upd_same ((upd_ne pj.symm).trans S.hj) (S.jl.mono (by omega)) ?_
      exact S.ej.new (S.ej.free pj np)
end
end Cv

/-! part K01E -/
set_option maxRecDepth 100000
set_option maxHeartbeats 4000000
namespace Cv
open PySem PySem.Spec PyProof.Rows L2
/-! ### plans -/
abbrev Cp := Str × Str × Str
def cpV (c : Cp) : List V := [.str c.1, .str c.2.1, .str c.2.2]
def cpD (c : Cp) : PyData := .tuple [.str c.1, .str c.2.1, .str c.2.2]
def planD (cs : List Cp) : PyData := .tuple (cs.map cpD)
def Word (x : Str) : Prop := x = Str.ofString "over" ∨ x = Str.ofString "skip"
structure CpOk (ys : List Str) (c : Cp) : Prop where
  w : Word c.1
  a : c.2.1 ∈ ys
  b : c.2.2 ∈ ys
  n : c.2.1 ≠ c.2.2
structure Plan (cs : List Cp) (ys : List Str) (mo : Int) : Prop where
  l : (cs.length : Int) ≤ mo
  c : ∀ c ∈ cs, CpOk ys c
  e : ys.length ≤ 1 → cs = []
def CpAt (H : Hp) (p : Addr) (c : Cp) : Prop := H p = some (.tup (cpV c))
def KeepT (H H' : Hp) : Prop := ∀ b xs, H b = some (.tup xs) → H' b = some (.tup xs)
theorem KeepT.trans {H H1 H2 : Hp} (a : KeepT H H1) (b : KeepT H1 H2) : KeepT H H2 := fun x o e => b x o (a x o e)
theorem KeepT.eff {H H' : Hp} {j : Addr} {l : List V} (e : Eff j H H') (hj : H j = some (.lst l)) : KeepT H H' := fun b xs h => e b _ (fun z => by
  subst z
  rw [hj] at h
  cases h) h
theorem KeepT.updL {H H' : Hp} {j : Addr} {l l' : List V} (k : KeepT H H') (hj : H' j = some (.lst l)) : KeepT H (upd H' j (.lst l')) := fun b xs h => by
  have h' := k b xs h
  rw [upd_ne (fun z => by
    subst z
    rw [hj] at h'
    cases h')]
  exact h'
theorem KeepT.updN {H H' : Hp} {p : Addr} {o : HO} (k : KeepT H H') (hp : H' p = none) : KeepT H (upd H' p o) := fun b xs h => (upd_ne (ne_of_none (k b xs h) hp)).trans (k b xs h)
theorem paired_snoc {α β : Type} {R : α → β → Prop} : ∀ {l : List α} {m : List β} {a : α} {b : β}, Paired R l m → R a b → Paired R (l ++ [a]) (m ++ [b])
  | _, _, _, _, .nil, r => .cons r .nil
  | _, _, _, _, .cons h t, r => .cons h (paired_snoc t r)
theorem str_dx {K : PySem.W.Frag} {H : Hp} {j : Addr} (c : Cp) : DxAll K H j (cpV c) [.str c.1, .str c.2.1, .str c.2.2] := .cons (.str _) (.cons (.str _) (.cons (.str _) .nil))
theorem plan_dx {K : PySem.W.Frag} {H : Hp} {j : Addr} {l : List V} (hj : H j = some (.lst l)) : ∀ {ps : List Addr} {cs : List Cp}, Paired (CpAt H) ps cs → DxAll K H j (ps.map V.ref) (cs.map cpD)
  | _, _, .nil => .nil
  | _, _, .cons (a := p) (b := c) h t => .cons (.tup (ne_of (show H p = some (.tup (cpV c)) from h) hj (fun z => nomatch z)) (.inl (.inl h)) (str_dx c)) (plan_dx hj t)
def spPlan (K : PySem.W.Frag) : Sp := fun vs H Q _ => ∃ (j a : Addr) (l : List V) (mo : Int) (n : Nat) (ys : List Str), vs = [.ref j, .ref a, .int mo] ∧ H j = some (.lst l) ∧ JarL l n ∧ n ≤ 10 ^ 8 ∧
  SqT K H a (ys.map V.str) ∧ a ≠ j ∧ 1 ≤ ys.length ∧ ys.length ≤ 20 ∧ ys.Nodup ∧ 0 ≤ mo ∧ mo ≤ 200 ∧
  ∀ (p : Addr) (cs : List Cp) (l' : List V) (H' : Hp), Plan cs ys mo → Dx K H' j (.ref p) (planD cs) → H' j = some (.lst l') → JarL l' (n + 1700) → Eff j H H' → Q (.ref p) H'
theorem pickW {v : Int} (h0 : 0 ≤ v) (h : v < 2) : ∃ x : Str, atI [V.str (Str.ofString "over"), V.str (Str.ofString "skip")] v = some (.str x) ∧ Word x := by
  have h2 : v = 0 ∨ v = 1 := by omega
  rcases h2 with rfl | rfl
  · exact ⟨_, rfl, .inl rfl⟩
  · exact ⟨_, rfl, .inr rfl⟩
theorem pick012 {w d b : Int} (w0 : 0 ≤ w) (w1 : w < 3) (d0 : 0 ≤ d) (d1 : d < 2) (b0 : 0 ≤ b) (b1 : b < 2) : ∃ v : Int, atI [V.int d, V.int 0, V.int b] w = some (.int v) ∧ 0 ≤ v ∧ v < 2 := by
  have h3 : w = 0 ∨ w = 1 ∨ w = 2 := by omega
  rcases h3 with rfl | rfl | rfl
  · exact ⟨_, rfl, d0, d1⟩
  · exact ⟨_, rfl, by decide, by decide⟩
  · exact ⟨_, rfl, b0, b1⟩
theorem next_ne {o M : Int} (h0 : 0 ≤ o) (h1 : o < M) (h2 : 2 ≤ M) : 0 ≤ (o + 1) % M ∧ (o + 1) % M < M ∧ (o + 1) % M ≠ o := by
  refine ⟨Int.emod_nonneg _ (by omega), Int.emod_lt_of_pos _ (by omega), ?_⟩
  by_cases h : o + 1 < M
  · rw [Int.emod_eq_of_lt (by omega) h]
    omega
  · have e : o + 1 = M := by omega
    rw [e, Int.emod_self]
    omega
theorem atT {ys : List Str} {i : Int} (h0 : 0 ≤ i) (h : i < ys.length) : ∃ y, atI (ys.map V.str) i = some (V.str y) ∧ ys[i.toNat]? = some y := by
  obtain ⟨m, x, e, hx, ha⟩ := atI_in (xs := ys) h0 h
  subst e
  refine ⟨x, atI_nat (by rw [List.getElem?_map, hx]; rfl), by simpa using hx⟩
end Cv

/-! part K01F -/
set_option maxRecDepth 100000
set_option maxHeartbeats 4000000
namespace Cv
open PySem PySem.Spec PyProof.Rows L2
section
variable {P : Program} {w : World} {K : PySem.W.Frag} {mg : Str → Option Value} {base : Heap}
theorem scP : FnScope ["jar", "names_here", "most", "many", "way", "found", "turn", "one", "two", "word"] ["jar", "names_here", "most"] (defScope sPlan) := ⟨rfl, rfl, rfl, by decide +kernel, rfl, by decide +kernel, by decide +kernel⟩
structure PlSt (K : PySem.W.Frag) (H0 H : Hp) (j Fd : Addr) (n i mo : Nat) (ys : List Str) (ps : List Addr) (cs : List Cp) (l : List V) : Prop where
  ej : Eff j H0 H
  hj : H j = some (.lst l)
  jl : JarL l (n + 2 + 8 * i)
  hF : H Fd = some (.lst (ps.map V.ref))
  nF : Fd ≠ j
  fF : H0 Fd = none
  pc : Paired (CpAt H) ps cs
  pl : ps.length = i
  co : ∀ c ∈ cs, CpOk ys c
  two : 0 < i → 2 ≤ ys.length
theorem paired_len {α β : Type} {R : α → β → Prop} {l : List α} {m : List β} (h : Paired R l m) : l.length = m.length := Paired.length h
theorem ok_plan {f : Addr} {fd : FuncData} (F : Fun K "_law_plan" "_law_plan" sPlan f fd) (B : Bl mg) (DD : Has P w K mg base CX0 1 "_law_dip" ["jar", "many"] spDip) :
    FnOk P w K mg base CX0 2 f fd ["jar", "names_here", "most"] (spPlan K) := by
  refine F.ok scP (fun vs H Q E h => ?_) (fun cdv A outer s H vs Q E hr h => ?_)
  · obtain ⟨j, a, l, mo, n, ys, rfl, _⟩ := h
    rfl
  · obtain ⟨j, a, l, mo, n, ys, rfl, hj, jl, hn, hS, haj, y1, y20, ynd, m0, m1, q⟩ := h
    refine ⟨_, pss_cons (ps_par3 (i := 3) (j := 4) (l := 5) rfl scP.nd rfl rfl rfl (by decide) (by decide) (by decide) rfl rfl rfl
        (pa_cons (pe_callB call_len_seq (by rfl) B.len PySem.boot_len (pa_cons (pv 1) pa_nil)) (pa_cons (pe_has DD hr pass0 (pa_cons (pv 0) (pa_cons pe_int pa_nil))) (pa_cons (pe_lst pa_nil) pa_nil))) rfl)
      (pss_cons (ps_for PassesOwn.never rfl (pi_range1 (by rfl) B.range (pa_cons (pe_op op_mul (pe_has DD hr pass0 (pa_cons (pv 0) (pa_cons (pe_op op_add (pv 2) pe_int) pa_nil)))
            (pe_callTy call_int1 (by rfl) B.int (by decide +kernel) (pa_cons (pe_cmpR op_gt (pv 3) pe_int (nomark _)) pa_nil))) pa_nil)) (pg_name (i := 6) scP.nd rfl (.inl rfl))
        (pss_cons (ps_par (i := 7) (j := 8) rfl scP.nd rfl rfl (by decide) rfl rfl (pa_cons (pe_has DD hr pass0 (pa_cons (pv 0) (pa_cons (pv 3) pa_nil))) (pa_cons (pe_has DD hr pass0 (pa_cons (pv 0) (pa_cons (pv 3) pa_nil))) pa_nil)) rfl)
        (C8.pss_cut (ps_if (pt_cmpR op_eq (pv 4) pe_int (nomark _))
          (pss_one (ps_par (i := 7) (j := 8) rfl scP.nd rfl rfl (by decide) rfl rfl (pa_cons (pe_op op_mod (pe_op op_add (pv 6) pe_int) (pv 3)) (pa_cons (pe_op op_mod (pv 6) (pv 3)) pa_nil)) rfl)) pss_nil)
        (C8.pss_cut (ps_if (pt_cmpR op_eq (pv 4) pe_int (nomark _)) (pss_one (ps_set (i := 8) scP.nd rfl (.inl rfl) pe_int)) pss_nil)
        (C8.pss_cut (ps_if (pt_cmpR op_eq (pv 4) pe_int (nomark _)) (pss_one (ps_set (i := 7) scP.nd rfl (.inl rfl) pe_int)) pss_nil)
        (C8.pss_cut (ps_if (pt_cmpR op_eq (pv 4) pe_int (nomark _))
          (pss_one (ps_par (i := 7) (j := 8) rfl scP.nd rfl rfl (by decide) rfl rfl
            (pa_cons (pe_has DD hr pass0 (pa_cons (pv 0) (pa_cons (pe_callB (call_min2 rfl) (by rfl) B.min (by decide +kernel) (pa_cons (pv 3) (pa_cons pe_int pa_nil))) pa_nil)))
            (pa_cons (pe_has DD hr pass0 (pa_cons (pv 0) (pa_cons (pe_callB (call_min2 rfl) (by rfl) B.min (by decide +kernel) (pa_cons (pv 3) (pa_cons pe_int pa_nil))) pa_nil))) pa_nil)) rfl)) pss_nil)
        (C8.pss_cut (ps_set (i := 8) scP.nd rfl (.inl rfl) (pe_ifExp (pt_cmpR op_ne (pv 8) (pv 7) (nomark _)) (pv 8) (pe_op op_mod (pe_op op_add (pv 7) pe_int) (pv 3))))
        (pss_cons (ps_set (i := 9) scP.nd rfl (.inl rfl) (pe_ix ix_list (pe_lst (pa_cons pe_str (pa_cons pe_str pa_nil)))
          (pe_ix ix_list (pe_lst (pa_cons (pe_has DD hr pass0 (pa_cons (pv 0) (pa_cons pe_int pa_nil))) (pa_cons pe_int (pa_cons (pe_callTy call_int1 (by rfl) B.int (by decide +kernel) (pa_cons (pe_cmpR op_eq (pe_op op_mod (pv 6) pe_int) pe_int (nomark _)) pa_nil)) pa_nil))))
            (pe_op op_mod (pv 4) pe_int) (fun _ _ => rfl)) (fun _ _ => rfl)))
        (pss_one (ps_expr (pe_bm PySem.F.plainAttrs_list PySem.F.slot_list_append PySem.F.type_list_append mt_append (pv 5)
          (pa_cons (pe_tup (pa_cons (pv 9) (pa_cons (pe_ix ix_tup (pv 1) (pv 7) (fun _ _ => rfl)) (pa_cons (pe_ix ix_tup (pv 1) (pv 8) (fun _ _ => rfl)) pa_nil)))) pa_nil))))))))))))
      (pss_one (ps_ret (pe_callTy call_tuple_of (by rfl) B.tuple (by decide +kernel) (pa_cons (pv 5) pa_nil))))), ?_⟩
    -- many, way, found
    refine ⟨_, rfl, a, _, rfl, .inr hS, _, rfl, j, l, 6, n, rfl, hj, jl, by omega, by decide, by decide, fun way l1 wa0 wa1 jl1 => ⟨Nat.zero_le _, fun Fd nF => ⟨_, _, _, rfl, ?_⟩⟩⟩
    have nF0 : Fd ≠ j := (ne_of_none upd_same nF).symm
    have fF : H Fd = none := (upd_ne (H := H) nF0).symm.trans nF
    have hj1 : upd (upd H j (.lst l1)) Fd (.lst []) j = some (.lst l1) := (upd_ne nF0.symm).trans upd_same
    -- the range
    refine ⟨_, rfl, _, rfl, mo, 1, rfl, rfl, j, l1, mo + 1, n + 1, rfl, hj1, jl1, by omega, by omega, by omega, fun d l2 d0 d1 jl2 => ?_⟩
    generalize hH2 : upd (upd (upd H j (.lst l1)) Fd (.lst [])) j (.lst l2) = H2
    have e2 : Eff j H H2 := by rw [← hH2]; exact (((Eff.refl j H).atj).new fF).atj
    have hj2 : H2 j = some (.lst l2) := by rw [← hH2]; exact upd_same
    have hF2 : H2 Fd = some (.lst []) := by rw [← hH2, upd_ne nF0]; exact upd_same
    obtain ⟨T, hT, hT2, hT3⟩ : ∃ T : Int, d * (if decide ((1 : Int) < ((ys.map V.str).length : Int)) = true then 1 else 0) = T ∧ (0 ≤ T ∧ T ≤ mo) ∧ (0 < T → 2 ≤ ys.length) := by
      refine ⟨_, rfl, ?_, ?_⟩
      · split <;> omega
      · rw [List.length_map]
        by_cases c : (1 : Int) < (ys.length : Int)
        · intro _; omega
        · rw [decide_eq_false c]
          intro z
          simp at z
    refine ⟨_, rfl, _, 1, rfl, rfl, .inr ⟨_, rfl, d, _, rfl, rfl, .inl ⟨by omega, by omega⟩, T, by rw [← hT], by omega, by omega, ?_⟩⟩
    have lenM : ((ys.map V.str).length : Int) = (ys.length : Int) := by rw [List.length_map]
    refine for_range (lo := 0) (n := T.toNat) (fun i σ H' => ∃ x6 x7 x8 x9 ps cs l', σ = [some (.ref j), some (.ref a), some (.int mo), some (.int ((ys.map V.str).length : Int)), some (.int way), some (.ref Fd), x6, x7, x8, x9] ∧
      PlSt K H H' j Fd n i mo.toNat ys ps cs l' ∧ (i : Int) ≤ T) ?_ ?_ ?_
    · exact ⟨none, none, none, none, [], [], l2, rfl, ⟨e2, hj2, jl2.mono (by omega), hF2, nF0, fF, .nil, rfl, (fun _ z => nomatch z), fun z => absurd z (by decide)⟩, by omega⟩
    · rintro i σ H3 hi ⟨x6, x7, x8, x9, ps, cs, l3, rfl, S, hiT⟩
      have M2 : 2 ≤ ys.length := hT3 (by omega)
      have hi200 : i < 200 := by omega
      rw [lenM]
      -- one, two
      refine ⟨_, rfl, _, rfl, j, l3, _, n + 2 + 8 * i, rfl, S.hj, S.jl, by omega, by omega, by omega, fun o l4 o0 o1 jl4 => ?_⟩
      refine ⟨_, rfl, _, rfl, j, l4, _, n + 2 + 8 * i + 1, rfl, upd_same, jl4, by omega, by omega, by omega, fun t l5 t0 t1 jl5 => ?_⟩
      refine ⟨_, _, rfl, ?_⟩
      have S3 : Eff j H3 (upd (upd H3 j (.lst l4)) j (.lst l5)) := ((Eff.refl j H3).atj).atj
      have S3j : (upd (upd H3 j (.lst l4)) j (.lst l5)) j = some (.lst l5) := upd_same
      generalize upd (upd H3 j (.lst l4)) j (.lst l5) = H5 at S3 S3j
      -- way == 1
      refine ⟨fun σ' H' => (∃ (o t : Int) (x9 : Option V), σ' = [some (.ref j), some (.ref a), some (.int mo), some (.int (ys.length : Int)), some (.int way), some (.ref Fd), some (.int (0 + (i : Int))), some (.int o), some (.int t), x9] ∧
          (0 ≤ o ∧ o < (ys.length : Int)) ∧ (0 ≤ t ∧ t < (ys.length : Int)) ∧ Eff j H3 H' ∧ ∃ l, H' j = some (.lst l) ∧ JarL l (n + 2 + 8 * i + 2 + 0)), ?_, ?_⟩
      · refine ⟨_, rfl, rfl, _, rfl, ite2 (fun _ => ?_) (fun _ => ?_)⟩
        · refine ⟨_, rfl, _, 1, rfl, rfl, _, rfl, _, _, rfl, rfl, (show (0 : Int) < (ys.length : Int) by omega), _, rfl, _, rfl, _, _, rfl, rfl, (show (0 : Int) < (ys.length : Int) by omega), _, _, rfl, ?_⟩
          exact ⟨_, _, x9, rfl, ⟨Int.emod_nonneg _ (by omega), Int.emod_lt_of_pos _ (by omega)⟩, ⟨Int.emod_nonneg _ (by omega), Int.emod_lt_of_pos _ (by omega)⟩, S3, _, S3j, jl5.mono (by omega)⟩
        · exact ⟨o, t, x9, rfl, ⟨o0, o1⟩, ⟨t0, t1⟩, S3, _, S3j, jl5.mono (by omega)⟩
      clear o0 o1 t0 t1 S3 S3j jl5 jl4
      rintro σ4 H4 ⟨o, t, y9, rfl, o01, t01, e4, l6, hj4, jl6⟩
      refine ⟨fun σ' H' => (∃ (o t : Int) (x9 : Option V), σ' = [some (.ref j), some (.ref a), some (.int mo), some (.int (ys.length : Int)), some (.int way), some (.ref Fd), some (.int (0 + (i : Int))), some (.int o), some (.int t), x9] ∧
          (0 ≤ o ∧ o < (ys.length : Int)) ∧ (0 ≤ t ∧ t < (ys.length : Int)) ∧ Eff j H3 H' ∧ ∃ l, H' j = some (.lst l) ∧ JarL l (n + 2 + 8 * i + 2 + 0)), ?_, ?_⟩
      · refine ⟨_, rfl, rfl, _, rfl, ite2 (fun _ => ?_) (fun _ => ?_)⟩
        · exact ⟨o, 0, y9, rfl, o01, ⟨by decide, by omega⟩, e4, _, hj4, jl6⟩
        · exact ⟨o, t, y9, rfl, o01, t01, e4, _, hj4, jl6⟩
      clear o01 t01 e4 hj4 jl6
      rintro σ4 H4 ⟨o, t, y9, rfl, o01, t01, e4, l6, hj4, jl6⟩
      refine ⟨fun σ' H' => (∃ (o t : Int) (x9 : Option V), σ' = [some (.ref j), some (.ref a), some (.int mo), some (.int (ys.length : Int)), some (.int way), some (.ref Fd), some (.int (0 + (i : Int))), some (.int o), some (.int t), x9] ∧
          (0 ≤ o ∧ o < (ys.length : Int)) ∧ (0 ≤ t ∧ t < (ys.length : Int)) ∧ Eff j H3 H' ∧ ∃ l, H' j = some (.lst l) ∧ JarL l (n + 2 + 8 * i + 2 + 0)), ?_, ?_⟩
      · refine ⟨_, rfl, rfl, _, rfl, ite2 (fun _ => ?_) (fun _ => ?_)⟩
        · exact ⟨0, t, y9, rfl, ⟨by decide, by omega⟩, t01, e4, _, hj4, jl6⟩
        · exact ⟨o, t, y9, rfl, o01, t01, e4, _, hj4, jl6⟩
      clear o01 t01 e4 hj4 jl6
      rintro σ4 H4 ⟨o, t, y9, rfl, o01, t01, e4, l6, hj4, jl6⟩
      refine ⟨fun σ' H' => (∃ (o t : Int) (x9 : Option V), σ' = [some (.ref j), some (.ref a), some (.int mo), some (.int (ys.length : Int)), some (.int way), some (.ref Fd), some (.int (0 + (i : Int))), some (.int o), some (.int t), x9] ∧
          (0 ≤ o ∧ o < (ys.length : Int)) ∧ (0 ≤ t ∧ t < (ys.length : Int)) ∧ Eff j H3 H' ∧ ∃ l, H' j = some (.lst l) ∧ JarL l (n + 2 + 8 * i + 2 + 2)), ?_, ?_⟩
      · refine ⟨_, rfl, rfl, _, rfl, ite2 (fun _ => ?_) (fun _ => ?_)⟩
        · refine ⟨_, rfl, _, rfl, _, 3, rfl, j, l6, _, n + 2 + 8 * i + 2, rfl, hj4, jl6, by omega, by split <;> omega, by split <;> omega, fun o' l7 p0 p1 jl7 => ?_⟩
          refine ⟨_, rfl, _, rfl, _, 3, rfl, j, l7, _, n + 2 + 8 * i + 2 + 1, rfl, upd_same, jl7, by omega, by split <;> omega, by split <;> omega, fun t' l8 q0 q1 jl8 => ?_⟩
          refine ⟨_, _, rfl, o', t', y9, rfl, ⟨p0, ?_⟩, ⟨q0, ?_⟩, (e4.atj).atj, _, upd_same, jl8.mono (by omega)⟩
          · revert p1; split <;> (intro p1; omega)
          · revert q1; split <;> (intro q1; omega)
        · exact ⟨o, t, y9, rfl, o01, t01, e4, _, hj4, jl6.mono (by omega)⟩
      clear o01 t01 e4 hj4 jl6
      rintro σ4 H4 ⟨o, t, y9, rfl, o01, t01, e4, l6, hj4, jl6⟩
      -- two is another one
      refine ⟨fun σ' H' => (∃ (o t : Int) (x9 : Option V), σ' = [some (.ref j), some (.ref a), some (.int mo), some (.int (ys.length : Int)), some (.int way), some (.ref Fd), some (.int (0 + (i : Int))), some (.int o), some (.int t), x9] ∧
          (0 ≤ o ∧ o < (ys.length : Int)) ∧ (0 ≤ t ∧ t < (ys.length : Int) ∧ t ≠ o) ∧ Eff j H3 H' ∧ ∃ l, H' j = some (.lst l) ∧ JarL l (n + 2 + 8 * i + 4)), ?_, ?_⟩
      · refine ⟨_, rfl, _, rfl, rfl, _, rfl, ite2 (fun c => ?_) (fun c => ?_)⟩
        · have c' : t ≠ o := fun z => by
            subst z
            simp at c
          exact ⟨_, rfl, o, t, y9, rfl, o01, ⟨t01.1, t01.2, c'⟩, e4, _, hj4, jl6⟩
        · obtain ⟨z1, z2, z3⟩ := next_ne o01.1 o01.2 (show (2 : Int) ≤ (ys.length : Int) by omega)
          exact ⟨_, rfl, _, 1, rfl, rfl, _, rfl, _, _, rfl, rfl, (show (0 : Int) < (ys.length : Int) by omega), o, _, y9, rfl, o01, ⟨z1, z2, z3⟩, e4, _, hj4, jl6⟩
      clear o01 t01 e4 hj4 jl6
      rintro σ4 H4 ⟨o, t, y9, rfl, o01, t01, e4, l6, hj4, jl6⟩
      -- word
      refine ⟨by decide, fun p1 np1 => ?_⟩
      have p1j : p1 ≠ j := (ne_of_none hj4 np1).symm
      refine ⟨_, rfl, j, l6, 2, n + 2 + 8 * i + 4, rfl, (upd_ne p1j.symm).trans hj4, jl6, by omega, by decide, by decide, fun d2 l7 d20 d21 jl7 => ?_⟩
      refine ⟨_, rfl, _, 5, rfl, rfl, (by show (0 : Int) < 5; decide), rfl, .inr ⟨_, rfl, ?_⟩⟩
      refine ⟨by show 3 ≤ sizeLine; decide, fun p2 np2 => ?_⟩
      have np2' : upd H4 p1 (.lst [V.str (Str.ofString "over"), V.str (Str.ofString "skip")]) p2 = none := (upd_ne (fun z => by rw [z, upd_same] at np2; cases np2)).symm.trans np2
      have p2j : p2 ≠ j := fun z => by rw [z, upd_same] at np2; cases np2
      have p12 : p1 ≠ p2 := ne_of_none upd_same np2'
      have np2'' : H4 p2 = none := (upd_ne (H := H4) p12.symm).symm.trans np2'
      obtain ⟨v, hv, v0, v1⟩ := pick012 (w := way % 3) (Int.emod_nonneg _ (by decide)) (Int.emod_lt_of_pos _ (by decide)) d20 d21 (b := if decide (V.int ((0 + (i : Int)) % 5) = V.int 4) = true then 1 else 0) (by split <;> decide) (by split <;> decide)
      obtain ⟨wd, hw, wok⟩ := pickW v0 v1
      refine ⟨_, rfl, way, 3, rfl, rfl, (by show (0 : Int) < 3; decide), p2, _, _, _, rfl, rfl, sqOf upd_same, hv, p1, _, v, _, rfl, rfl, sqOf ?_, hw, ?_⟩
      · rw [upd_ne p12, upd_ne p1j, upd_same]
      generalize hH8 : upd (upd (upd H4 p1 (.lst [V.str (Str.ofString "over"), V.str (Str.ofString "skip")])) j (.lst l7)) p2 _ = H8
      have e8 : Eff j H3 H8 := by rw [← hH8]; exact ((e4.new (e4.free p1j np1)).atj).new (e4.free p2j np2'')
      have hj8 : H8 j = some (.lst l7) := by rw [← hH8, upd_ne p2j.symm]; exact upd_same
      have e08 := S.ej.trans e8
      have hF8 := e8 Fd _ S.nF S.hF
      have hS8 : SqT K H8 a (ys.map V.str) := eff_t e08 haj hS
      obtain ⟨ya, ha1, ha2⟩ := atT o01.1 o01.2
      obtain ⟨yb, hb1, hb2⟩ := atT t01.1 t01.2.1
      -- found.append
      refine ⟨_, rfl, .inl ⟨rfl, _, sqOf hF8⟩, _, rfl, _, rfl, _, rfl, a, _, o, _, rfl, rfl, hS8, ha1, _, rfl, _, rfl, a, _, t, _, rfl, rfl, hS8, hb1, by show 3 ≤ sizeLine; decide, fun p np => ?_⟩
      have pj : p ≠ j := (ne_of_none hj8 np).symm
      have npH3 : H3 p = none := e8.free pj np
      have npH : H p = none := e08.free pj np
      have hFp := (upd_ne (H := H8) (o := .tup [V.str wd, V.str ya, V.str yb]) (ne_of_none hF8 np)).trans hF8
      refine ⟨Fd, _, _, rfl, rfl, hFp, by rw [List.length_map, S.pl]; exact small1000 (by omega), ?_⟩
      have kt : KeepT H3 (upd (upd H8 p (.tup [V.str wd, V.str ya, V.str yb])) Fd (.lst (ps.map V.ref ++ [V.ref p]))) := ((KeepT.eff e8 S.hj).updN np).updL hFp
      refine ⟨_, _, _, _, ps ++ [p], cs ++ [(wd, ya, yb)], l7, rfl, ⟨?_, ?_, jl7.mono (by omega), ?_, S.nF, S.fF, ?_, by rw [List.length_append, S.pl]; rfl, ?_, fun _ => M2⟩, by omega⟩
      · exact (e08.new npH).new S.fF
      · rw [upd_ne S.nF.symm, upd_ne pj.symm]
        exact hj8
      · rw [upd_same, List.map_append]
        rfl
      · refine paired_snoc (Paired.mapP S.pc fun x c hx => kt _ _ hx) ?_
        show upd _ _ _ p = some (.tup (cpV (wd, ya, yb)))
        rw [upd_ne (ne_of_none hF8 np).symm, upd_same]
        rfl
      · intro c hc
        rcases List.mem_append.mp hc with z | z
        · exact S.co c z
        · have : c = (wd, ya, yb) := by simpa using z
          subst this
          refine ⟨wok, List.mem_of_getElem? ha2, List.mem_of_getElem? hb2, fun z => ?_⟩
          have z' : ya = yb := z
          subst z'
          have l1 := (List.getElem?_eq_some_iff.mp ha2)
          have l2 := (List.getElem?_eq_some_iff.mp hb2)
          obtain ⟨q1, q2⟩ := l1
          obtain ⟨q3, q4⟩ := l2
          have := (List.getElem_inj ynd).mp (q2.trans q4.symm)
          omega
    · rintro σ H3 ⟨x6, x7, x8, x9, ps, cs, l3, rfl, S, hiT⟩
      refine ⟨_, rfl, Fd, _, rfl, .inl ⟨sqOf S.hF, fun p np => ?_⟩⟩
      have pj : p ≠ j := (ne_of_none S.hj np).symm
      have hj9 := (upd_ne (H := H3) (o := .tup (ps.map V.ref)) pj.symm).trans S.hj
      refine q p cs l3 _ ⟨?_, S.co, fun z => ?_⟩ ?_ hj9 (S.jl.mono (by omega)) (S.ej.new (S.ej.free pj np))
      · have h1 := paired_len S.pc
        have h2 := S.pl
        omega
      · have h1 := paired_len S.pc
        have h2 := S.pl
        have h3 : ¬ 0 < T.toNat := fun h => by have := S.two h; omega
        cases cs with
        | nil => rfl
        | cons c r => rw [List.length_cons] at h1; omega
      · exact .tup pj (stOf upd_same) (plan_dx hj9 (Paired.mapP S.pc fun x c hx => (upd_ne (ne_of_none hx np)).trans hx))
end
end Cv

/-! part K01G -/
set_option maxRecDepth 100000
set_option maxHeartbeats 4000000
namespace Cv
open PySem PySem.Spec PyProof.Rows L2
/-! ### what the program says of data -/
def letter (c : Nat) : Bool := decide (97 ≤ c) && decide (c ≤ 122)
def nmB (x : Str) : Bool := decide (1 ≤ x.length) && decide (x.length ≤ 8) && x.cps.toList.all letter
def isNameD : PyData → Bool
  | .str x => nmB x
  | _ => false
def wordB (x : Str) : Bool := decide (x = Str.ofString "over") || decide (x = Str.ofString "skip")
def wordD : PyData → Bool
  | .str x => wordB x
  | _ => false
def sameD : PyData → PyData → Bool
  | .str x, .str y => decide (x = y)
  | _, _ => false
def isCopyD : PyData → Bool
  | .tuple [a, b, c] => wordD a && (isNameD b && (isNameD c && !sameD b c))
  | _ => false
def isScriptD : PyData → Bool
  | .tuple ds => decide (ds.length ≤ 200) && ds.all isCopyD
  | _ => false
/-! its texts are short -/
mutual
def smD : PyData → Bool
  | .str x => decide (x.length ≤ 10000)
  | .list ds => smAll ds
  | .tuple ds => smAll ds
  | .dict es => smKv es
  | .none => true
  | .bool _ => true
  | .int _ => true
def smAll : List PyData → Bool
  | [] => true
  | d :: ds => smD d && smAll ds
def smKv : List (PyData × PyData) → Bool
  | [] => true
  | (k, d) :: es => smD k && smD d && smKv es
end
theorem smAll_mem : ∀ {ds : List PyData} {d : PyData}, smAll ds = true → d ∈ ds → smD d = true
  | [], _, _, h => nomatch h
  | e :: ds, d, h, m => by
    have h' : smD e = true ∧ smAll ds = true := by simpa [smAll] using h
    rcases List.mem_cons.mp m with z | z
    · rw [z]; exact h'.1
    · exact smAll_mem h'.2 z
def tyN : PyData → String
  | .none => "NoneType"
  | .bool _ => "bool"
  | .int _ => "int"
  | .str _ => "str"
  | .list _ => "list"
  | .tuple _ => "tuple"
  | .dict _ => "dict"
def isStr : PyData → Bool
  | .str _ => true
  | _ => false
def isTup : PyData → Bool
  | .tuple _ => true
  | _ => false
section
variable {K : PySem.W.Frag} {H : Hp} {j : Addr} {v : V} {d : PyData}
theorem Dx.ty (h : Dx K H j v d) : TyX K H v (.type (tyN d)) := by
  cases h with
  | non => exact .base .non
  | bl b => exact .base (.bl b)
  | int i => exact .base (.int i)
  | str x => exact .base (.str x)
  | lst _ hs _ =>
    rcases hs with (h | ⟨o, h⟩) | ⟨o, _, _, h1, h2, _⟩
    · exact .base (.lst h)
    · exact .base (.frz h)
    · exact .kList h1 h2
  | tup _ hs _ =>
    rcases hs with (h | ⟨o, h⟩) | ⟨o, _, _, h1, h2, _⟩
    · exact .base (.tup h)
    · exact .fTuple h
    · exact .kTuple h1 h2
  | dic _ hs _ => exact .base (.dK hs)
theorem kit_str : ∀ d : PyData, kitB (tyN d) "str" = some (isStr d)
  | .none => by decide +kernel
  | .bool _ => by show kitB "bool" "str" = some false; decide +kernel
  | .int _ => by show kitB "int" "str" = some false; decide +kernel
  | .str _ => by show kitB "str" "str" = some true; decide +kernel
  | .list _ => by show kitB "list" "str" = some false; decide +kernel
  | .tuple _ => by show kitB "tuple" "str" = some false; decide +kernel
  | .dict _ => by show kitB "dict" "str" = some false; decide +kernel
theorem kit_tup : ∀ d : PyData, kitB (tyN d) "tuple" = some (isTup d)
  | .none => by decide +kernel
  | .bool _ => by show kitB "bool" "tuple" = some false; decide +kernel
  | .int _ => by show kitB "int" "tuple" = some false; decide +kernel
  | .str _ => by show kitB "str" "tuple" = some false; decide +kernel
  | .list _ => by show kitB "list" "tuple" = some false; decide +kernel
  | .tuple _ => by show kitB "tuple" "tuple" = some true; decide +kernel
  | .dict _ => by show kitB "dict" "tuple" = some false; decide +kernel
theorem rd_str {Q : VK} (h : Dx K H j v d) (q : Q (.bl (isStr d)) H) : rIsi K [v, .ty "str"] H Q := ⟨v, .ty "str", _, _, _, rfl, .ty "str", h.ty, kit_ty (kit_str d), q⟩
theorem rd_tup {Q : VK} (h : Dx K H j v d) (q : Q (.bl (isTup d)) H) : rIsi K [v, .ty "tuple"] H Q := ⟨v, .ty "tuple", _, _, _, rfl, .ty "tuple", h.ty, kit_ty (kit_tup d), q⟩
end
theorem DxAll.len {K : PySem.W.Frag} {H : Hp} {j : Addr} : ∀ {vs : List V} {ds : List PyData}, DxAll K H j vs ds → vs.length = ds.length
  | _, _, .nil => rfl
  | _, _, .cons _ t => by rw [List.length_cons, List.length_cons, DxAll.len t]
theorem DxAll.get {K : PySem.W.Frag} {H : Hp} {j : Addr} : ∀ {vs : List V} {ds : List PyData} {i : Nat} {v : V}, DxAll K H j vs ds → vs[i]? = some v → ∃ d, ds[i]? = some d ∧ Dx K H j v d
  | _, _, _, _, .nil, e => by simp at e
  | _, _, 0, _, .cons h _, e => by
    have e' := Option.some.inj e
    subst e'
    exact ⟨_, rfl, h⟩
  | _, _, i + 1, v, .cons _ t, e => DxAll.get (i := i) t e
/-- the module's constants -/
structure Gb (K : PySem.W.Frag) (mg : Str → Option Value) : Prop where
  ln : ∃ t, mg "LONGEST_NAME" = some (.int 8 t)
  mc : ∃ t, mg "MOST_COPIES" = some (.int 200 t)
  wd : ∃ a, mg "WORDS" = some (.ref a) ∧ ∀ H, SqT K H a [.str (Str.ofString "over"), .str (Str.ofString "skip")]
theorem sqOf0 {K : PySem.W.Frag} {H : Hp} {a : Addr} {xs : List V} (h : H a = some (.lst xs)) : SqL K H a xs := .inl (.inl h)
def spD (K : PySem.W.Frag) (g : PyData → Bool) : Sp := fun vs H Q _ => ∃ (j : Addr) (v : V) (d : PyData), vs = [v] ∧ Dx K H j v d ∧ smD d = true ∧ ∀ H', Same H H' → Q (.bl (g d)) H'
theorem lt1 (a b : Nat) : decide (([a] : List Nat) < [b]) = decide (a < b) := by
  have e : ([a] : List Nat) < [b] ↔ a < b := by
    rw [List.cons_lt_cons_iff]
    constructor
    · rintro (h | ⟨_, h⟩)
      · exact h
      · exact absurd h (by simp)
    · exact .inl
  by_cases h : a < b
  · rw [decide_eq_true h, decide_eq_true (e.mpr h)]
  · rw [decide_eq_false h, decide_eq_false (fun z => h (e.mp z))]
theorem letter_of (c : Nat) : (if (!decide (([c] : List Nat) < [97])) = true then !decide (([122] : List Nat) < [c]) else false) = letter c := by
  rw [lt1, lt1]
  unfold letter
  by_cases h : c < 97
  · rw [decide_eq_true h, decide_eq_false (show ¬ 97 ≤ c by omega)]
    rfl
  · rw [decide_eq_false h, decide_eq_true (show 97 ≤ c by omega)]
    by_cases h2 : 122 < c
    · rw [decide_eq_true h2, decide_eq_false (show ¬ c ≤ 122 by omega)]
      rfl
    · rw [decide_eq_false h2, decide_eq_true (show c ≤ 122 by omega)]
      rfl
section
variable {P : Program} {w : World} {K : PySem.W.Frag} {mg : Str → Option Value} {base : Heap}
theorem scNm : FnScope ["value", "sign"] ["value"] (defScope sName) := ⟨rfl, rfl, rfl, by decide +kernel, rfl, by decide +kernel, by decide +kernel⟩
theorem ok_name {f : Addr} {fd : FuncData} (F : Fun K "is_name" "is_name" sName f fd) (B : Bl mg) (G : Gb K mg) : FnOk P w K mg base CX0 1 f fd ["value"] (spD K isNameD) := by
  obtain ⟨t8, g8⟩ := G.ln
  refine F.ok scNm (fun vs H Q E h => ?_) (fun cdv A outer s H vs Q E hr h => ?_)
  · obtain ⟨j, v, d, rfl, _⟩ := h
    rfl
  · obtain ⟨j, v, d, rfl, hx, hsm, q⟩ := h
    refine ⟨_, pss_cons (ps_if (PW.pt (pw_or (pt_not (pt_val (pe_callB call_isi (by rfl) B.isi (by decide +kernel) (pa_cons (pv 0) (pa_cons (pe_bltn (v := .ty "str") (u := .type "str") (by rfl) B.str (by decide +kernel) rfl) pa_nil)))))
          (pw_or1 (pt_not (pt_chain op_le op_le pe_int (pe_callB call_len_str (by rfl) B.len PySem.boot_len (pa_cons (pv 0) pa_nil)) (pe_glob (v := .int 8) (by rfl) g8 ⟨_, rfl⟩))))))
        (pss_one (ps_ret pe_bl)) pss_nil)
      (pss_one (ps_ret (pe_callB (cr_all rfl) (by rfl) B.all (by decide +kernel) (pa_cons (pe_lc (own := [("sign", 1)]) (tt := tYes) rfl scNm.nd (pi_str (pv 0)) (blkOk_by (N := ["value", "sign"]) (sc := defScope sName) (by decide +kernel))
        (fun _ _ _ _ _ => pg_name (i := 1) scNm.nd rfl (.inl rfl)) (fun _ _ _ _ _ => pts_nil) (fun _ _ _ _ _ => pe_chain op_le_str op_le_str pe_str (pv 1) pe_str)) pa_nil)))), ?_⟩
    refine ⟨v, rfl, v, .ty "str", _, _, _, rfl, .ty "str", hx.ty, kit_ty (kit_str d), _, rfl, ?_⟩
    have no : isNameD d = false → ∀ H', Same H H' → Q (.bl false) H' := fun e H' h => by rw [← e]; exact q H' h
    cases hx with
    | str x =>
      have hl : x.length ≤ 10000 := by simpa [smD] using hsm
      refine ⟨_, rfl, x, rfl, Nat.le_trans hl (by decide), 1, _, rfl, rfl, _, rfl, ?_⟩
      show if decide ((1 : Int) ≤ (x.length : Int)) = true then _ else _
      refine ite2 (fun c => ?_) (fun c => ?_)
      · refine ⟨_, 8, rfl, rfl, _, rfl, ?_⟩
        show if (!decide ((x.length : Int) ≤ 8)) = true then _ else _
        refine ite2 (fun c2 => ?_) (fun c2 => ?_)
        · refine no ?_ H (Same.refl H)
          have : ¬ x.length ≤ 8 := by
            intro z
            rw [decide_eq_true (show (x.length : Int) ≤ 8 by omega)] at c2
            cases c2
          show nmB x = false
          unfold nmB
          rw [decide_eq_false this, Bool.and_false, Bool.false_and]
        · have l1 : 1 ≤ x.length := by have := of_decide_eq_true c; omega
          have l8 : x.length ≤ 8 := by
            by_cases z : (x.length : Int) ≤ 8
            · omega
            · rw [decide_eq_false z] at c2
              exact absurd rfl c2
          -- all([..])
          refine ⟨_, rfl, x, rfl, fun D nD => ?_⟩
          refine lc_it walk_str (fun i H' => H' D = some (.lst (((x.cps.toList.take i).map letter).map V.bl)) ∧ Same H H') ⟨upd_same, same_new nD⟩ (fun _ _ _ _ => trivial) ?_ ?_
          · rintro i y H1 H2 hi ⟨hD, e1⟩ ⟨rfl, c, hc, rfl⟩
            have hc' : x.cps.toList[i]? = some c := by rw [Array.getElem?_toList]; exact hc
            refine ⟨rfl, ⟨_, rfl, _, _, rfl, rfl, _, rfl, ?_⟩⟩
            have fin : ∃ acc, H2 D = some (.lst acc) ∧ acc.length < sizeLine ∧ (upd H2 D (.lst (acc ++ [V.bl (letter c)])) D = some (.lst (((x.cps.toList.take (i + 1)).map letter).map V.bl)) ∧ Same H (upd H2 D (.lst (acc ++ [V.bl (letter c)])))) := by
              refine ⟨_, hD, ?_, ?_, same_up e1 nD⟩
              · rw [List.length_map, List.length_map, List.length_take]
                have sz : x.cps.size ≤ 8 := l8
                exact small1000 (by omega)
              · rw [upd_same, List.take_add_one, hc', List.map_append, List.map_append]
                rfl
            rw [← letter_of] at fin
            show if (!decide (([c] : List Nat) < [97])) = true then _ else _
            by_cases k : (!decide (([c] : List Nat) < [97])) = true
            · rw [if_pos k] at fin ⊢
              exact ⟨_, _, rfl, rfl, fin⟩
            · rw [if_neg k] at fin ⊢
              exact fin
          · rintro H1 ⟨hD, e1⟩
            refine ⟨D, _, rfl, sqOf0 hD, ?_⟩
            have e : isNameD (.str x) = ((x.cps.toList.take x.cps.size).map letter).all id := by
              show nmB x = _
              unfold nmB
              rw [decide_eq_true l1, decide_eq_true l8, List.take_of_length_le (by simp), List.all_map]
              rfl
            rw [← e]
            exact q H1 e1
      · refine ⟨false, rfl, no ?_ H (Same.refl H)⟩
        have : ¬ 1 ≤ x.length := by
          intro z
          exact c (decide_eq_true (by omega))
        show nmB x = false
        unfold nmB
        rw [decide_eq_false this, Bool.false_and, Bool.false_and]
    | non => exact no rfl H (Same.refl H)
    | bl b => exact no rfl H (Same.refl H)
    | int i => exact no rfl H (Same.refl H)
    | lst _ _ _ => exact no rfl H (Same.refl H)
    | tup _ _ _ => exact no rfl H (Same.refl H)
    | dic _ _ _ => exact no rfl H (Same.refl H)
end
end Cv

/-! part K01H -/
set_option maxRecDepth 100000
set_option maxHeartbeats 4000000
namespace Cv
open PySem PySem.Spec PyProof.Rows L2
theorem inV_word (x : Str) : inV (.str x) [V.str (Str.ofString "over"), V.str (Str.ofString "skip")] = wordB x := by
  unfold inV wordB
  simp only [List.any_cons, List.any_nil, Bool.or_false]
  have e : ∀ y : Str, eqV (.str y) (.str x) = decide (x = y) := fun y => by
    by_cases h : x = y
    · subst h
      simp [eqV]
    · rw [decide_eq_false h]
      simp [eqV]
      exact fun z => h z.symm
  rw [e, e]
theorem copy_no {ds : List PyData} (h : ds.length ≠ 3) : isCopyD (.tuple ds) = false := by
  cases ds with
  | nil => rfl
  | cons a r =>
    cases r with
    | nil => rfl
    | cons b r =>
      cases r with
      | nil => rfl
      | cons c r =>
        cases r with
        | nil => exact absurd rfl h
        | cons _ _ => rfl
theorem nameStr {d : PyData} (h : isNameD d = true) : ∃ x, d = .str x := by
  cases d with
  | str x => exact ⟨x, rfl⟩
  | none => exact nomatch h
  | bool _ => exact nomatch h
  | int _ => exact nomatch h
  | list _ => exact nomatch h
  | tuple _ => exact nomatch h
  | dict _ => exact nomatch h
section
variable {P : Program} {w : World} {K : PySem.W.Frag} {mg : Str → Option Value} {base : Heap}
theorem dx_three {H : Hp} {j : Addr} {xs : List V} {ds : List PyData} (ha : DxAll K H j xs ds) (l : xs.length = 3) : ∃ x1 x2 x3 d1 d2 d3, xs = [x1, x2, x3] ∧ ds = [d1, d2, d3] ∧ Dx K H j x1 d1 ∧ Dx K H j x2 d2 ∧ Dx K H j x3 d3 := by
  cases ha with
  | nil => exact nomatch l
  | cons h1 t =>
    cases t with
    | nil => exact nomatch l
    | cons h2 t =>
      cases t with
      | nil => exact nomatch l
      | cons h3 t =>
        cases t with
        | nil => exact ⟨_, _, _, _, _, _, rfl, rfl, h1, h2, h3⟩
        | cons _ _ => simp at l
theorem scCp : FnScope ["value", "word", "source", "target"] ["value"] (defScope sCopy) := ⟨rfl, rfl, rfl, by decide +kernel, rfl, by decide +kernel, by decide +kernel⟩
theorem Dx.same {H H' : Hp} {j : Addr} {v : V} {d : PyData} (h : Dx K H j v d) (e : Same H H') : Dx K H' j v d := h.keep (Eff.same e) d v
theorem ok_copy {f : Addr} {fd : FuncData} (F : Fun K "is_copy" "is_copy" sCopy f fd) (B : Bl mg) (G : Gb K mg) (DN : Has P w K mg base CX0 1 "is_name" ["value"] (spD K isNameD)) :
    FnOk P w K mg base CX0 2 f fd ["value"] (spD K isCopyD) := by
  obtain ⟨aw, gw, sw⟩ := G.wd
  refine F.ok scCp (fun vs H Q E h => ?_) (fun cdv A outer s H vs Q E hr h => ?_)
  · obtain ⟨j, v, d, rfl, _⟩ := h
    rfl
  · obtain ⟨j, v, d, rfl, hx, hsm, q⟩ := h
    refine ⟨_, pss_cons (ps_if (PW.pt (pw_or (pt_not (pt_val (pe_callB call_isi (by rfl) B.isi (by decide +kernel) (pa_cons (pv 0) (pa_cons (pe_bltn (v := .ty "tuple") (u := .type "tuple") (by rfl) B.tuple (by decide +kernel) rfl) pa_nil)))))
          (pw_or1 (pt_cmpR op_ne (pe_callB call_len_seq (by rfl) B.len PySem.boot_len (pa_cons (pv 0) pa_nil)) pe_int (nomark _)))))
        (pss_one (ps_ret pe_bl)) pss_nil)
      (pss_cons (ps_asg (pv 0) (pg_tup rfl (pgs_cons (pg_name (i := 1) scCp.nd rfl (.inl rfl)) (pgs_cons (pg_name (i := 2) scCp.nd rfl (.inl rfl)) (pgs_cons (pg_name (i := 3) scCp.nd rfl (.inl rfl)) pgs_nil)))))
      (pss_cons (ps_if (PW.pt (pw_or (pt_not (pt_val (pe_callB call_isi (by rfl) B.isi (by decide +kernel) (pa_cons (pv 1) (pa_cons (pe_bltn (v := .ty "str") (u := .type "str") (by rfl) B.str (by decide +kernel) rfl) pa_nil)))))
          (pw_or1 (pt_cmpR op_notIn_seq (pv 1) (pe_glob (v := .ref aw) (by rfl) gw rfl) rfl))))
        (pss_one (ps_ret pe_bl)) pss_nil)
      (pss_one (ps_ret (pe_and (pe_has DN hr pass0 (pa_cons (pv 2) pa_nil)) (pe_and (pe_has DN hr pass0 (pa_cons (pv 3) pa_nil)) (pe_one (pe_cmpR op_ne (pv 2) (pv 3) (nomark _))))))))), ?_⟩
    have no : isCopyD d = false → ∀ H', Same H H' → Q (.bl false) H' := fun e H' h => by rw [← e]; exact q H' h
    refine ⟨v, rfl, v, .ty "tuple", _, _, _, rfl, .ty "tuple", hx.ty, kit_ty (kit_tup d), _, rfl, ?_⟩
    cases hx with
    | @tup a xs ds haj hs ha =>
      have el := ha.len
      refine ⟨_, rfl, a, xs, rfl, .inr hs, rfl, _, rfl, ?_⟩
      show if (!decide (V.int (xs.length : Int) = V.int 3)) = true then _ else _
      refine ite2 (fun c => ?_) (fun c => ?_)
      · refine no (copy_no fun z => ?_) H (Same.refl H)
        rw [← el] at z
        rw [z] at c
        exact absurd c (by decide)
      · have l3 : xs.length = 3 := by
          by_cases z : xs.length = 3
          · exact z
          · rw [decide_eq_false (fun y => z (by injection y with y; omega))] at c
            exact absurd rfl c
        obtain ⟨x1, x2, x3, d1, d2, d3, rfl, rfl, h1, h2, h3⟩ := dx_three ha l3
        refine ⟨_, rfl, a, _, rfl, hs, rfl, _, _, rfl, _, _, rfl, _, _, rfl, rfl, ?_⟩
        refine ⟨x1, rfl, x1, .ty "str", _, _, _, rfl, .ty "str", h1.ty, kit_ty (kit_str d1), _, rfl, ?_⟩
        have sm2 : smD d2 = true := smAll_mem (ds := [d1, d2, d3]) (by simpa [smD] using hsm) (by simp)
        have sm3 : smD d3 = true := smAll_mem (ds := [d1, d2, d3]) (by simpa [smD] using hsm) (by simp)
        cases h1 with
        | str x =>
          refine ⟨_, rfl, aw, _, rfl, .inr (sw H), rfl, rfl, _, rfl, ?_⟩
          show if (!inV (.str x) [V.str (Str.ofString "over"), V.str (Str.ofString "skip")]) = true then _ else _
          rw [inV_word]
          refine ite2 (fun c2 => ?_) (fun c2 => ?_)
          · refine no ?_ H (Same.refl H)
            have : wordB x = false := by simpa using c2
            show (wordB x && _) = false
            rw [this, Bool.false_and]
          · have wx : wordB x = true := by simpa using c2
            have e0 : isCopyD (.tuple [.str x, d2, d3]) = (isNameD d2 && (isNameD d3 && !sameD d2 d3)) := by
              show (wordB x && _) = _
              rw [wx, Bool.true_and]
            rw [e0] at q
            refine ⟨_, rfl, j, x2, d2, rfl, h2, sm2, fun H1 e1 => ⟨_, rfl, ?_⟩⟩
            cases n2 : isNameD d2 with
            | false =>
              rw [n2, Bool.false_and] at q
              exact q H1 e1
            | true =>
              rw [n2, Bool.true_and] at q
              refine ⟨_, rfl, j, x3, d3, rfl, h3.same e1, sm3, fun H2 e2 => ⟨_, rfl, ?_⟩⟩
              cases n3 : isNameD d3 with
              | false =>
                rw [n3, Bool.false_and] at q
                exact q H2 (e1.trans e2)
              | true =>
                rw [n3, Bool.true_and] at q
                obtain ⟨s2, rfl⟩ := nameStr n2
                obtain ⟨s3, rfl⟩ := nameStr n3
                cases h2
                cases h3
                refine ⟨_, rfl, _, rfl, rfl, ?_⟩
                have e3 : decide (V.str s2 = V.str s3) = sameD (.str s2) (.str s3) := by
                  show _ = decide (s2 = s3)
                  by_cases z : s2 = s3
                  · subst z
                    simp
                  · rw [decide_eq_false z, decide_eq_false fun y => z (by injection y)]
                rw [e3]
                exact q H2 (e1.trans e2)
        | non => exact no rfl H (Same.refl H)
        | bl b => exact no rfl H (Same.refl H)
        | int i => exact no rfl H (Same.refl H)
        | lst _ _ _ => exact no rfl H (Same.refl H)
        | tup _ _ _ => exact no rfl H (Same.refl H)
        | dic _ _ _ => exact no rfl H (Same.refl H)
    | non => exact no rfl H (Same.refl H)
    | bl b => exact no rfl H (Same.refl H)
    | int i => exact no rfl H (Same.refl H)
    | str _ => exact no rfl H (Same.refl H)
    | lst _ _ _ => exact no rfl H (Same.refl H)
    | dic _ _ _ => exact no rfl H (Same.refl H)
theorem same_t {H H' : Hp} {a : Addr} {xs : List V} (e : Same H H') (h : SqT K H a xs) : SqT K H' a xs := by
  rcases h with (h | ⟨o, h⟩) | h
  · exact .inl (.inl (e _ _ h))
  · exact .inl (.inr ⟨o, e _ _ h⟩)
  · exact .inr h
theorem scSc : FnScope ["value", "item"] ["value"] (defScope sScript) := ⟨rfl, rfl, rfl, by decide +kernel, rfl, by decide +kernel, by decide +kernel⟩
theorem ok_script {f : Addr} {fd : FuncData} (F : Fun K "is_script" "is_script" sScript f fd) (B : Bl mg) (G : Gb K mg) (DC : Has P w K mg base CX0 2 "is_copy" ["value"] (spD K isCopyD)) :
    FnOk P w K mg base CX0 3 f fd ["value"] (spD K isScriptD) := by
  obtain ⟨t2, g2⟩ := G.mc
  refine F.ok scSc (fun vs H Q E h => ?_) (fun cdv A outer s H vs Q E hr h => ?_)
  · obtain ⟨j, v, d, rfl, _⟩ := h
    rfl
  · obtain ⟨j, v, d, rfl, hx, hsm, q⟩ := h
    refine ⟨_, pss_cons (ps_if (PW.pt (pw_or (pt_not (pt_val (pe_callB call_isi (by rfl) B.isi (by decide +kernel) (pa_cons (pv 0) (pa_cons (pe_bltn (v := .ty "tuple") (u := .type "tuple") (by rfl) B.tuple (by decide +kernel) rfl) pa_nil)))))
          (pw_or1 (pt_cmpR op_gt (pe_callB call_len_seq (by rfl) B.len PySem.boot_len (pa_cons (pv 0) pa_nil)) (pe_glob (v := .int 200) (by rfl) g2 ⟨_, rfl⟩) (nomark _)))))
        (pss_one (ps_ret pe_bl)) pss_nil)
      (pss_one (ps_ret (pe_callB (cr_all rfl) (by rfl) B.all (by decide +kernel) (pa_cons (pe_lc (own := [("item", 1)]) (tt := tYes) rfl scSc.nd (pi_tup (pv 0)) (blkOk_by (N := ["value", "item"]) (sc := defScope sScript) (by decide +kernel))
        (fun _ _ _ _ _ => pg_name (i := 1) scSc.nd rfl (.inl rfl)) (fun _ _ _ _ _ => pts_nil) (fun _ _ _ _ _ => pe_has DC hr pass0 (pa_cons (pv 1) pa_nil))) pa_nil)))), ?_⟩
    have no : isScriptD d = false → ∀ H', Same H H' → Q (.bl false) H' := fun e H' h => by rw [← e]; exact q H' h
    refine ⟨v, rfl, v, .ty "tuple", _, _, _, rfl, .ty "tuple", hx.ty, kit_ty (kit_tup d), _, rfl, ?_⟩
    cases hx with
    | @tup a xs ds haj hs ha =>
      have el := ha.len
      refine ⟨_, rfl, a, xs, rfl, .inr hs, _, 200, rfl, rfl, _, rfl, ?_⟩
      show if decide ((200 : Int) < (xs.length : Int)) = true then _ else _
      refine ite2 (fun c => ?_) (fun c => ?_)
      · refine no ?_ H (Same.refl H)
        have := of_decide_eq_true c
        show (decide (ds.length ≤ 200) && _) = false
        rw [decide_eq_false (by omega), Bool.false_and]
      · have l200 : ds.length ≤ 200 := by
          by_cases z : (200 : Int) < (xs.length : Int)
          · exact absurd (decide_eq_true z) c
          · omega
        refine ⟨_, rfl, a, rfl, ⟨xs, hs⟩, fun D nD => ?_⟩
        refine lc_it walk_tup (fun i H' => H' D = some (.lst (((ds.take i).map isCopyD).map V.bl)) ∧ Same H H') ⟨upd_same, same_new nD⟩ (fun i H' _ h => same_t h.2 hs) ?_ ?_
        · rintro i x H1 H2 hi ⟨hD, e1⟩ ⟨rfl, hc⟩
          obtain ⟨di, hdi, hxi⟩ := ha.get hc
          refine ⟨rfl, ⟨x, rfl, j, x, di, rfl, hxi.same e1, smAll_mem (by simpa [smD] using hsm) (List.mem_of_getElem? hdi), fun H3 e3 => ?_⟩⟩
          refine ⟨_, e3 _ _ hD, ?_, ?_, same_up (e1.trans e3) nD⟩
          · rw [List.length_map, List.length_map, List.length_take]
            exact small1000 (by omega)
          · rw [upd_same, List.take_add_one, hdi, List.map_append, List.map_append]
            rfl
        · rintro H1 ⟨hD, e1⟩
          refine ⟨D, _, rfl, sqOf0 hD, ?_⟩
          have e : isScriptD (.tuple ds) = ((ds.take xs.length).map isCopyD).all id := by
            show (decide (ds.length ≤ 200) && ds.all isCopyD) = _
            rw [decide_eq_true l200, List.take_of_length_le (by omega), List.all_map, Bool.true_and]
            rfl
          rw [← e]
          exact q H1 e1
    | non => exact no rfl H (Same.refl H)
    | bl b => exact no rfl H (Same.refl H)
    | int i => exact no rfl H (Same.refl H)
    | str _ => exact no rfl H (Same.refl H)
    | lst _ _ _ => exact no rfl H (Same.refl H)
    | dic _ _ _ => exact no rfl H (Same.refl H)
end
end Cv

/-! part K01I -/
set_option maxRecDepth 100000
set_option maxHeartbeats 4000000
namespace Cv
open PySem PySem.Spec PyProof.Rows L2
theorem hu_of' {A : Around} {k : Nat} (hr : Room k A) : A.units < cLine := hr.units0
theorem stOf0 {K : PySem.W.Frag} {H : Hp} {a : Addr} {xs : List V} (h : H a = some (.tup xs)) : SqT K H a xs := .inl (.inl h)
def isStrV : V → Bool
  | .str _ => true
  | _ => false
theorem Dx.strV {K : PySem.W.Frag} {H : Hp} {j : Addr} {v : V} {d : PyData} (h : Dx K H j v d) : isStr d = isStrV v := by
  cases h <;> rfl
theorem abcC : (Str.ofString "abcdefghijklmnopqrstuvwxyz").cps.toList = (List.range 26).map fun i => 97 + i := by decide +kernel
theorem abc_in (c : Nat) : decide (c ∈ (Str.ofString "abcdefghijklmnopqrstuvwxyz").cps.toList) = letter c := by
  rw [abcC]
  unfold letter
  by_cases h : 97 ≤ c ∧ c ≤ 122
  · rw [decide_eq_true h.1, decide_eq_true h.2, decide_eq_true]
    · rfl
    · exact List.mem_map.mpr ⟨c - 97, List.mem_range.mpr (by omega), by omega⟩
  · have e : (decide (97 ≤ c) && decide (c ≤ 122)) = false := by
      by_cases h1 : 97 ≤ c
      · rw [decide_eq_false (show ¬ c ≤ 122 from fun z => h ⟨h1, z⟩), Bool.and_false]
      · rw [decide_eq_false h1, Bool.false_and]
    rw [e, decide_eq_false]
    intro m
    obtain ⟨i, hi, e⟩ := List.mem_map.mp m
    have := List.mem_range.mp hi
    exact h (by omega)
theorem filt_empty {α : Type} (p : α → Bool) (l : List α) : (!(l.filter p).isEmpty) = l.any p := by
  induction l with
  | nil => rfl
  | cons a l ih =>
    rw [List.any_cons, List.filter_cons]
    cases h : p a with
    | true => rw [if_pos rfl]; rfl
    | false => rw [if_neg (by simp), ih]; rfl
theorem take_filter {α : Type} (p : α → Bool) {l : List α} {i : Nat} {x : α} (h : l[i]? = some x) : (l.take (i + 1)).filter p = (l.take i).filter p ++ (if p x = true then [x] else []) := by
  rw [List.take_add_one, h, List.filter_append]
  congr 1
  show List.filter p [x] = _
  rw [List.filter_cons]
  rfl
theorem copy_strs {d1 d2 d3 : PyData} (h : (isStr d1 && isStr d2 && isStr d3) = false) : isCopyD (.tuple [d1, d2, d3]) = false := by
  cases e : isCopyD (.tuple [d1, d2, d3]) with
  | false => rfl
  | true =>
    have e' : (wordD d1 && (isNameD d2 && (isNameD d3 && !sameD d2 d3))) = true := e
    simp only [Bool.and_eq_true] at e'
    obtain ⟨a, b, c, _⟩ := e'
    obtain ⟨y, rfl⟩ := nameStr b
    obtain ⟨z, rfl⟩ := nameStr c
    have : ∃ x, d1 = .str x := by
      cases d1 <;> first | exact ⟨_, rfl⟩ | exact nomatch a
    obtain ⟨x, rfl⟩ := this
    exact nomatch h
theorem nmB_no {s : Str} (h : ¬ (1 ≤ s.length ∧ s.length ≤ 8)) : nmB s = false := by
  unfold nmB
  by_cases h1 : 1 ≤ s.length
  · rw [decide_eq_false (show ¬ s.length ≤ 8 from fun z => h ⟨h1, z⟩), Bool.and_false, Bool.false_and]
  · rw [decide_eq_false h1, Bool.false_and, Bool.false_and]
theorem nmB_in {s : Str} (h : 1 ≤ s.length ∧ s.length ≤ 8) : nmB s = !(s.cps.toList.any fun c => !letter c) := by
  unfold nmB
  rw [decide_eq_true h.1, decide_eq_true h.2]
  simp only [Bool.true_and]
  induction s.cps.toList with
  | nil => rfl
  | cons a l ih => simp [List.all_cons, List.any_cons, ih]
section
variable {P : Program} {w : World} {K : PySem.W.Frag} {mg : Str → Option Value} {base : Heap}
theorem scIc : FnScope ["thing", "one", "sign"] ["thing"] (defScope sIsC) := ⟨rfl, rfl, rfl, by decide +kernel, rfl, by decide +kernel, by decide +kernel⟩
theorem ok_isc {f : Addr} {fd : FuncData} (F : Fun K "_law_is_copy" "_law_is_copy" sIsC f fd) (B : Bl mg) : FnOk P w K mg base CX0 1 f fd ["thing"] (spD K isCopyD) := by
  refine F.ok scIc (fun vs H Q E h => ?_) (fun cdv A outer s H vs Q E hr h => ?_)
  · obtain ⟨j, v, d, rfl, _⟩ := h
    rfl
  · obtain ⟨j, v, d, rfl, hx, hsm, q⟩ := h
    refine ⟨_, pss_cons (ps_if (PW.pt (pw_or (pt_not (pt_val (pe_callB call_isi (by rfl) B.isi (by decide +kernel) (pa_cons (pv 0) (pa_cons (pe_bltn (v := .ty "tuple") (u := .type "tuple") (by rfl) B.tuple (by decide +kernel) rfl) pa_nil)))))
          (pw_or (pt_cmpR op_ne (pe_callB call_len_seq (by rfl) B.len PySem.boot_len (pa_cons (pv 0) pa_nil)) pe_int (nomark _))
          (pw_or1 (pt_cmpR (op_neL (hu_of' hr)) (pe_lc (own := [("one", 1)]) (tt := tNot (tB (tCB (rIsi K) (tCons (tVar 1) (tCons (tC (.ty "str")) tNil))))) (te := tVar 1) rfl scIc.nd (pi_tup (pv 0)) (blkOk_by (N := ["thing", "one", "sign"]) (sc := defScope sIsC) (by decide +kernel)) (fun _ _ _ _ _ => pg_name (i := 1) scIc.nd rfl (.inl rfl))
            (fun _ _ _ _ _ => pts_one (pt_not (pt_val (pe_callB (id := "isinstance") call_isi (by rfl) B.isi (by decide +kernel) (pa_cons (pv 1) (pa_cons (pe_bltn (v := .ty "str") (u := .type "str") (by rfl) B.str (by decide +kernel) rfl) pa_nil)))))) (fun _ _ _ _ _ => pv 1)) (pe_lst pa_nil) (nomark _))))))
        (pss_one (ps_ret pe_bl)) pss_nil)
      (pss_cons (ps_for PassesOwn.never rfl (pi_tup (pe_slice sl_tupA (pv 0) (po_some pe_int) po_none)) (pg_name (i := 1) scIc.nd rfl (.inl rfl))
        (pss_one (ps_if (PW.pt (pw_or (pt_not (pt_chain op_le op_le pe_int (pe_callB call_len_str (by rfl) B.len PySem.boot_len (pa_cons (pv 1) pa_nil)) pe_int))
          (pw_or1 (pt_cmpR (op_neL (hu_of' hr)) (pe_lc (own := [("sign", 2)]) (tt := tTest (tOp rNotInS (tVar 2) (tC (.str (Str.ofString "abcdefghijklmnopqrstuvwxyz"))))) (te := tVar 2) rfl scIc.nd (pi_str (pv 1)) (blkOk_by (N := ["thing", "one", "sign"]) (sc := defScope sIsC) (by decide +kernel)) (fun _ _ _ _ _ => pg_name (i := 2) scIc.nd rfl (.inl rfl))
            (fun _ _ _ _ _ => pts_one (pt_cmpR op_notInS (pv 2) pe_str rfl)) (fun _ _ _ _ _ => pv 2)) (pe_lst pa_nil) (nomark _)))))
          (pss_one (ps_ret pe_bl)) pss_nil)))
      (pss_one (ps_ret (pe_and (pe_cmpR op_in_seq (pe_ix ix_tup (pv 0) pe_int (fun _ _ => rfl)) (pe_tup (pa_cons pe_str (pa_cons pe_str pa_nil))) rfl)
        (pe_one (pe_cmpR op_ne (pe_ix ix_tup (pv 0) pe_int (fun _ _ => rfl)) (pe_ix ix_tup (pv 0) pe_int (fun _ _ => rfl)) (nomark _))))))), ?_⟩
    have no : isCopyD d = false → ∀ H', Same H H' → Q (.bl false) H' := fun e H' h => by rw [← e]; exact q H' h
    refine ⟨v, rfl, v, .ty "tuple", _, _, _, rfl, .ty "tuple", hx.ty, kit_ty (kit_tup d), _, rfl, ?_⟩
    cases hx with
    | @tup a xs ds haj hs ha =>
      have el := ha.len
      refine ⟨_, rfl, a, xs, rfl, .inr hs, rfl, _, rfl, ?_⟩
      show if (!decide (V.int (xs.length : Int) = V.int 3)) = true then _ else _
      refine ite2 (fun c => ?_) (fun c => ?_)
      · refine no (copy_no fun z => ?_) H (Same.refl H)
        rw [← el] at z
        rw [z] at c
        exact absurd c (by decide)
      · have l3 : xs.length = 3 := by
          by_cases z : xs.length = 3
          · exact z
          · rw [decide_eq_false (fun y => z (by injection y with y; omega))] at c
            exact absurd rfl c
        -- [one for one in thing if not isinstance(one, str)] != []
        refine ⟨_, rfl, a, rfl, ⟨xs, hs⟩, fun D nD => ?_⟩
        refine lc_it walk_tup (fun i H' => H' D = some (.lst ((xs.take i).filter fun v => !isStrV v)) ∧ Same H H') ⟨upd_same, same_new nD⟩ (fun i H' _ h => same_t h.2 hs) ?_ ?_
        · rintro i x H1 H2 hi ⟨hD, e1⟩ ⟨rfl, hc⟩
          obtain ⟨di, hdi, hxi⟩ := ha.get hc
          refine ⟨rfl, ⟨x, rfl, x, .ty "str", _, _, _, rfl, .ty "str", (hxi.same e1).ty, kit_ty (kit_str di), _, rfl, ?_⟩⟩
          have e9 := take_filter (fun v => !isStrV v) hc
          rw [hxi.strV]
          refine ite2 (fun k => ?_) (fun k => ?_)
          · refine ⟨x, rfl, _, hD, ?_, ?_, same_up e1 nD⟩
            · exact Nat.lt_of_le_of_lt (List.length_filter_le _ _) (Nat.lt_of_le_of_lt (List.length_take_le _ _) (small1000 (by omega)))
            · rw [upd_same, e9, if_pos k]
          · refine ⟨?_, e1⟩
            rw [hD, e9, if_neg k, List.append_nil]
        rintro H1 ⟨hD, e1⟩
        rw [List.take_of_length_le (Nat.le_refl _)] at hD
        refine ⟨by decide, fun p np => ?_⟩
        refine ⟨D, p, _, rfl, rfl, sqOf0 ((upd_ne (ne_of_none hD np)).trans hD), sqOf0 upd_same, _, rfl, ?_⟩
        have e2 : Same H (upd H1 p (.lst [])) := e1.trans (same_new np)
        generalize upd H1 p (.lst []) = H2 at e2
        show if (!((xs.filter fun v => !isStrV v)).isEmpty) = true then _ else _
        rw [filt_empty]
        obtain ⟨x1, x2, x3, d1, d2, d3, rfl, rfl, h1, h2, h3⟩ := dx_three ha l3
        refine ite2 (fun c2 => ?_) (fun c2 => ?_)
        · refine no ?_ H2 e2
          have c3 : (isStr d1 && isStr d2 && isStr d3) = false := by
            rw [h1.strV, h2.strV, h3.strV]
            revert c2
            simp only [List.any_cons, List.any_nil]
            cases isStrV x1 <;> cases isStrV x2 <;> cases isStrV x3 <;> simp
          exact copy_strs c3
        · have c3 : isStrV x1 = true ∧ isStrV x2 = true ∧ isStrV x3 = true := by
            revert c2
            simp only [List.any_cons, List.any_nil]
            cases isStrV x1 <;> cases isStrV x2 <;> cases isStrV x3 <;> simp
          obtain ⟨k1, k2, k3⟩ := c3
          have strx : ∀ {x : V} {d : PyData}, Dx K H j x d → isStrV x = true → smD d = true → ∃ s, x = .str s ∧ d = .str s ∧ s.length ≤ 10000 := by
            intro x d hx hk hm
            cases hx with
            | str s => exact ⟨_, rfl, rfl, by simpa [smD] using hm⟩
            | non => exact nomatch hk
            | bl _ => exact nomatch hk
            | int _ => exact nomatch hk
            | lst _ _ _ => exact nomatch hk
            | tup _ _ _ => exact nomatch hk
            | dic _ _ _ => exact nomatch hk
          have mem : ∀ {d}, d ∈ [d1, d2, d3] → smD d = true := fun hd => smAll_mem (ds := [d1, d2, d3]) (by simpa [smD] using hsm) hd
          obtain ⟨s1, rfl, rfl, z1⟩ := strx h1 k1 (mem (by simp))
          obtain ⟨s2, rfl, rfl, z2⟩ := strx h2 k2 (mem (by simp))
          obtain ⟨s3, rfl, rfl, z3⟩ := strx h3 k3 (mem (by simp))
          have hs2 := same_t e2 hs
          -- for one in thing[1:]
          refine ⟨_, rfl, 1, rfl, a, _, rfl, hs2, fun z => absurd z.1 (by show ¬ HT.sIx 3 0 (some 1) = 0; decide), fun _ p2 np2 => ⟨p2, rfl, ⟨_, stOf0 upd_same⟩, ?_⟩⟩
          have e3 : Same H (upd H2 p2 (.tup (cutV [V.str s1, V.str s2, V.str s3] (some 1) none))) := e2.trans (same_new np2)
          have hp2 : upd H2 p2 (.tup (cutV [V.str s1, V.str s2, V.str s3] (some 1) none)) p2 = some (.tup [V.str s2, V.str s3]) := upd_same
          generalize upd H2 p2 (.tup (cutV [V.str s1, V.str s2, V.str s3] (some 1) none)) = H3 at e3 hp2
          refine for_tup (xs := [V.str s2, V.str s3]) (fun i σ H' => ∃ y1 y2, σ = [some (.ref a), y1, y2] ∧ Same H H' ∧ H' p2 = some (.tup [V.str s2, V.str s3]) ∧ ∀ k s, k < i → [s2, s3][k]? = some s → nmB s = true)
            ⟨none, none, rfl, e3, hp2, fun k s hk => absurd hk (Nat.not_lt_zero _)⟩ (fun i σ H' _ h => by obtain ⟨_, _, _, _, h, _⟩ := h; exact stOf0 h) ?_ ?_
          · rintro i x σ H4 hxi ⟨y1, y2, rfl, e4, hp4, hall⟩
            obtain ⟨s, rfl, hs', zs⟩ : ∃ s, x = .str s ∧ [s2, s3][i]? = some s ∧ s.length ≤ 10000 := by
              rcases i with _ | _ | i
              · exact ⟨s2, (Option.some.inj hxi).symm, rfl, z2⟩
              · exact ⟨s3, (Option.some.inj hxi).symm, rfl, z3⟩
              · exact absurd hxi (by simp)
            have nos : nmB s = false → ∀ H', Same H H' → Q (.bl false) H' := fun e H' h => by
              refine no ?_ H' h
              show (wordB s1 && (nmB s2 && (nmB s3 && _))) = false
              rcases i with _ | _ | i
              · have h' : s2 = s := Option.some.inj hs'
                rw [h', e, Bool.false_and, Bool.and_false]
              · have h' : s3 = s := Option.some.inj hs'
                rw [h', e, Bool.false_and, Bool.and_false, Bool.and_false]
              · exact absurd hs' (by simp)
            refine ⟨_, rfl, s, rfl, Nat.le_trans zs (by decide), 1, _, rfl, rfl, _, rfl, ?_⟩
            show if decide ((1 : Int) ≤ (s.length : Int)) = true then _ else _
            refine ite2 (fun c => ?_) (fun c => ?_)
            · refine ⟨_, 8, rfl, rfl, _, rfl, ?_⟩
              show if (!decide ((s.length : Int) ≤ 8)) = true then _ else _
              refine ite2 (fun c4 => ?_) (fun c4 => ?_)
              · refine nos (nmB_no fun z => ?_) H4 e4
                rw [decide_eq_true (show (s.length : Int) ≤ 8 by omega)] at c4
                exact nomatch c4
              · have l8 : 1 ≤ s.length ∧ s.length ≤ 8 := by
                  refine ⟨by have := of_decide_eq_true c; omega, ?_⟩
                  by_cases z : (s.length : Int) ≤ 8
                  · omega
                  · rw [decide_eq_false z] at c4
                    exact absurd rfl c4
                refine ⟨_, rfl, s, rfl, fun D2 nD2 => ?_⟩
                refine lc_it walk_str (fun i H' => H' D2 = some (.lst (((s.cps.toList.take i).filter fun c => !letter c).map fun c => V.str ⟨#[c]⟩)) ∧ Same H4 H') ⟨upd_same, same_new nD2⟩ (fun _ _ _ _ => trivial) ?_ ?_
                · rintro i y H5 H6 hi ⟨hD, e5⟩ ⟨rfl, c, hc, rfl⟩
                  have hc' : s.cps.toList[i]? = some c := by rw [Array.getElem?_toList]; exact hc
                  have e9 := take_filter (fun c => !letter c) hc'
                  refine ⟨rfl, _, rfl, c, _, rfl, rfl, _, rfl, ?_⟩
                  show if (!decide (c ∈ (Str.ofString "abcdefghijklmnopqrstuvwxyz").cps.toList)) = true then _ else _
                  rw [abc_in]
                  refine ite2 (fun k => ?_) (fun k => ?_)
                  · refine ⟨_, rfl, _, hD, ?_, ?_, same_up e5 nD2⟩
                    · have sz : s.cps.size ≤ 8 := l8.2
                      rw [List.length_map]
                      exact Nat.lt_of_le_of_lt (List.length_filter_le _ _) (Nat.lt_of_le_of_lt (List.length_take_le _ _) (small1000 (by omega)))
                    · rw [upd_same, e9, if_pos k, List.map_append]
                      rfl
                  · refine ⟨?_, e5⟩
                    rw [hD, e9, if_neg k, List.append_nil]
                rintro H5 ⟨hD, e5⟩
                rw [List.take_of_length_le (by simp)] at hD
                refine ⟨by decide, fun p np => ?_⟩
                refine ⟨D2, p, _, rfl, rfl, sqOf0 ((upd_ne (ne_of_none hD np)).trans hD), sqOf0 upd_same, _, rfl, ?_⟩
                have e6 : Same H (upd H5 p (.lst [])) := (e4.trans e5).trans (same_new np)
                have hp6 : upd H5 p (.lst []) p2 = some (.tup [V.str s2, V.str s3]) := same_new np _ _ (e5 _ _ hp4)
                have ee : (!(((s.cps.toList.filter fun c => !letter c).map fun c => V.str ⟨#[c]⟩)).isEmpty) = !nmB s := by
                  rw [nmB_in l8, Bool.not_not, ← filt_empty, List.isEmpty_map]
                show if (!(((s.cps.toList.filter fun c => !letter c).map fun c => V.str ⟨#[c]⟩)).isEmpty) = true then _ else _
                rw [ee]
                refine ite2 (fun c5 => ?_) (fun c5 => ?_)
                · exact nos (by simpa using c5) _ e6
                · have c6 : nmB s = true := by simpa using c5
                  refine ⟨_, _, rfl, e6, hp6, fun k t hk ht => ?_⟩
                  by_cases hki : k = i
                  · subst hki
                    rw [hs'] at ht
                    rw [← Option.some.inj ht]
                    exact c6
                  · exact hall k t (by omega) ht
            · refine ⟨false, rfl, nos (nmB_no fun z => c (decide_eq_true (by omega))) H4 e4⟩
          · rintro σ H4 ⟨y1, y2, rfl, e4, hp4, hall⟩
            have n2 := hall 0 s2 (by show 0 < 2; decide) rfl
            have n3 := hall 1 s3 (by show 1 < 2; decide) rfl
            have hs4 := same_t e4 hs
            have e0 : isCopyD (.tuple [.str s1, .str s2, .str s3]) = (wordB s1 && !decide (s2 = s3)) := by
              show (wordB s1 && (nmB s2 && (nmB s3 && !decide (s2 = s3)))) = _
              rw [n2, n3, Bool.true_and, Bool.true_and]
            rw [e0] at q
            refine ⟨_, rfl, a, _, 0, _, rfl, rfl, hs4, rfl, by show 2 ≤ sizeLine; decide, fun p np => ?_⟩
            refine ⟨p, _, rfl, .inr (stOf0 upd_same), rfl, rfl, _, rfl, ?_⟩
            have e5 : Same H (upd H4 p (.tup [V.str (Str.ofString "over"), V.str (Str.ofString "skip")])) := e4.trans (same_new np)
            have hs5 := same_t e5 hs
            show if inV (.str s1) [V.str (Str.ofString "over"), V.str (Str.ofString "skip")] = true then _ else _
            rw [inV_word]
            cases hw : wordB s1 with
            | false =>
              rw [hw, Bool.false_and] at q
              exact q _ e5
            | true =>
              rw [hw, Bool.true_and] at q
              refine ⟨_, rfl, a, _, 1, _, rfl, rfl, hs5, rfl, _, rfl, a, _, 2, _, rfl, rfl, hs5, rfl, rfl, ?_⟩
              have e6 : decide (V.str s2 = V.str s3) = decide (s2 = s3) := by
                by_cases z : s2 = s3
                · subst z
                  simp
                · rw [decide_eq_false z, decide_eq_false fun y => z (by injection y)]
              rw [e6]
              exact q _ e5
    | non => exact no rfl H (Same.refl H)
    | bl b => exact no rfl H (Same.refl H)
    | int i => exact no rfl H (Same.refl H)
    | str _ => exact no rfl H (Same.refl H)
    | lst _ _ _ => exact no rfl H (Same.refl H)
    | dic _ _ _ => exact no rfl H (Same.refl H)
end
end Cv

/-! part K01J -/
set_option maxRecDepth 100000
set_option maxHeartbeats 4000000
namespace Cv
open PySem PySem.Spec PyProof.Rows L2
/-! ### data that repr may show: its weight at most n, its depth at most k -/
structure Gd (d : PyData) (n k : Nat) : Prop where
  ls : d.leavesShort 13 = true
  sh : d.showable = true
  dp : d.depth ≤ k
  wt : d.weight ≤ n
  sm : smD d = true
inductive Gds : List PyData → Nat → Nat → Prop
  | nil (k : Nat) : Gds [] 0 k
  | cons {d : PyData} {ds : List PyData} {n m k : Nat} : Gd d n k → Gds ds m k → Gds (d :: ds) (n + 1 + m) k
theorem Gd.mono {d : PyData} {n n' k k' : Nat} (h : Gd d n k) (hn : n ≤ n') (hk : k ≤ k') : Gd d n' k' := ⟨h.ls, h.sh, Nat.le_trans h.dp hk, Nat.le_trans h.wt hn, h.sm⟩
theorem Gds.up {k k' : Nat} (hk : k ≤ k') : ∀ {ds : List PyData} {n : Nat}, Gds ds n k → Gds ds n k'
  | _, _, .nil _ => .nil _
  | _, _, .cons h t => .cons (h.mono (Nat.le_refl _) hk) (Gds.up hk t)
theorem Gds.app {k : Nat} : ∀ {a b : List PyData} {n m : Nat}, Gds a n k → Gds b m k → Gds (a ++ b) (n + m) k
  | _, _, _, m, .nil _, h => by
    rw [Nat.zero_add]
    exact h
  | _, _, _, m, .cons (n := x) (m := y) h t, g => by
    rw [Nat.add_assoc]
    exact .cons h (Gds.app t g)
theorem Gds.mem {k : Nat} : ∀ {ds : List PyData} {n : Nat} {d : PyData}, Gds ds n k → d ∈ ds → Gd d n k
  | _, _, _, .nil _, h => nomatch h
  | _, _, d, .cons (n := x) (m := y) h t, m => by
    rcases List.mem_cons.mp m with e | m
    · rw [e]
      exact h.mono (by omega) (Nat.le_refl _)
    · exact (Gds.mem t m).mono (by omega) (Nat.le_refl _)
structure GdsF (ds : List PyData) (n k : Nat) : Prop where
  ls : PyData.leavesShortAll 13 ds = true
  sh : PyData.showableAll ds = true
  dp : PyData.depthAll ds ≤ k
  wt : PyData.weightAll ds ≤ n
  sm : smAll ds = true
theorem Gds.all {k : Nat} : ∀ {ds : List PyData} {n : Nat}, Gds ds n k → GdsF ds n k
  | _, _, .nil _ => ⟨rfl, rfl, Nat.zero_le _, Nat.le_refl _, rfl⟩
  | _, _, .cons h t => by
    have i := Gds.all t
    refine ⟨?_, ?_, ?_, ?_, ?_⟩
    · simp only [PyData.leavesShortAll, h.ls, i.ls, Bool.and_self]
    · simp only [PyData.showableAll, h.sh, i.sh, Bool.and_self]
    · simp only [PyData.depthAll]
      exact Nat.max_le.mpr ⟨h.dp, i.dp⟩
    · simp only [PyData.weightAll]
      have := h.wt
      have := i.wt
      omega
    · simp only [smAll, h.sm, i.sm, Bool.and_self]
theorem Gd.tup {ds : List PyData} {n k : Nat} (h : Gds ds n k) : Gd (.tuple ds) n (k + 1) := by
  have i := h.all
  exact ⟨by simpa only [PyData.leavesShort] using i.ls, by simpa only [PyData.showable] using i.sh, by simpa only [PyData.depth] using Nat.succ_le_succ i.dp, by simpa only [PyData.weight] using i.wt, by simpa only [smD] using i.sm⟩
theorem Gd.lst {ds : List PyData} {n k : Nat} (h : Gds ds n k) : Gd (.list ds) n (k + 1) := by
  have i := h.all
  exact ⟨by simpa only [PyData.leavesShort] using i.ls, by simpa only [PyData.showable] using i.sh, by simpa only [PyData.depth] using Nat.succ_le_succ i.dp, by simpa only [PyData.weight] using i.wt, by simpa only [smD] using i.sm⟩
theorem Gd.non (k : Nat) : Gd .none 0 k := ⟨rfl, rfl, Nat.zero_le _, Nat.le_refl _, rfl⟩
theorem Gd.bool (b : Bool) (k : Nat) : Gd (.bool b) 0 k := ⟨rfl, rfl, Nat.zero_le _, Nat.le_refl _, rfl⟩
theorem Gd.int {i : Int} (h : i.natAbs < 10 ^ 12) (h2 : i.natAbs.log2 < 63) (k : Nat) : Gd (.int i) 64 k := by
  refine ⟨?_, ?_, Nat.zero_le _, ?_, rfl⟩
  · simp only [PyData.leavesShort, decide_eq_true_eq]
    exact PyData.shown_int_le h
  · simp only [PyData.showable, decide_eq_true_eq]
    omega
  · simp only [PyData.weight]
    split <;> omega
theorem Gd.dic0 (k : Nat) : Gd (.dict []) 0 (k + 1) := by
  refine ⟨rfl, rfl, ?_, ?_, rfl⟩
  · simp only [PyData.depth, PyData.depthKv]
    omega
  · simp only [PyData.weight, PyData.weightKv]
    omega
theorem Gd.str {x : Str} {n : Nat} (hc : ∀ c ∈ x.cps.toList, c < 1000000) (hl : x.length ≤ n) (hn : n ≤ 10000) (k : Nat) : Gd (.str x) n k := by
  refine ⟨?_, rfl, Nat.zero_le _, ?_, ?_⟩
  · simp only [PyData.leavesShort, List.all_eq_true, decide_eq_true_eq]
    intro c h
    have := hc c h
    have e : (16 : Nat) ^ 8 = 4294967296 := by decide
    omega
  · simp only [PyData.weight]
    exact hl
  · simp only [smD, decide_eq_true_eq]
    omega
theorem Gd.fits {d : PyData} {n k : Nat} (h : Gd d n k) (hn : n ≤ 2 ^ 20) : d.shown.length ≤ sizeLine := PyData.shown_fits (B := 13) (by decide) (by decide) h.ls (Nat.le_trans h.wt hn)
/-! ### new objects -/
section
variable {K : PySem.W.Frag} {H H' : Hp} {j p : Addr} {o : HO}
theorem DxAll.same {vs : List V} {ds : List PyData} (h : DxAll K H j vs ds) (e : Same H H') : DxAll K H' j vs ds := DxAll.keep (Eff.same e) ds vs h
theorem DxAll.eff {vs : List V} {ds : List PyData} (h : DxAll K H j vs ds) (e : Eff j H H') : DxAll K H' j vs ds := DxAll.keep e ds vs h
theorem Dx.eff {v : V} {d : PyData} (h : Dx K H j v d) (e : Eff j H H') : Dx K H' j v d := h.keep e d v
theorem DxAll.app : ∀ {vs ws : List V} {ds es : List PyData}, DxAll K H j vs ds → DxAll K H j ws es → DxAll K H j (vs ++ ws) (ds ++ es)
  | _, _, _, _, .nil, h => h
  | _, _, _, _, .cons h t, g => .cons h (DxAll.app t g)
theorem DxAll.take : ∀ {vs : List V} {ds : List PyData} (n : Nat), DxAll K H j vs ds → DxAll K H j (vs.take n) (ds.take n)
  | _, _, 0, _ => .nil
  | _, _, _ + 1, .nil => .nil
  | _, _, n + 1, .cons h t => .cons h (DxAll.take n t)
theorem DxAll.drop : ∀ {vs : List V} {ds : List PyData} (n : Nat), DxAll K H j vs ds → DxAll K H j (vs.drop n) (ds.drop n)
  | _, _, 0, h => h
  | _, _, _ + 1, .nil => .nil
  | _, _, n + 1, .cons _ t => DxAll.drop n t
theorem DxAll.one {v : V} {d : PyData} (h : Dx K H j v d) : DxAll K H j [v] [d] := .cons h .nil
theorem new_tup {xs : List V} {ds : List PyData} (hj : H j = some o) (hp : H p = none) (h : DxAll K H j xs ds) : Dx K (upd H p (.tup xs)) j (.ref p) (.tuple ds) :=
  .tup (ne_of_none hj hp).symm (.inl (.inl upd_same)) (h.same (same_new hp))
theorem new_lst {xs : List V} {ds : List PyData} (hj : H j = some o) (hp : H p = none) (h : DxAll K H j xs ds) : Dx K (upd H p (.lst xs)) j (.ref p) (.list ds) :=
  .lst (ne_of_none hj hp).symm (.inl (.inl upd_same)) (h.same (same_new hp))
theorem new_dic (hj : H j = some o) (hp : H p = none) : Dx K (upd H p (.dK [])) j (.ref p) (.dict []) :=
  .dic (ne_of_none hj hp).symm upd_same .nil
end
end Cv

/-! part K01K -/
set_option maxRecDepth 100000
set_option maxHeartbeats 4000000
namespace Cv
open PySem PySem.Spec PyProof.Rows L2
structure CpNm (c : Cp) : Prop where
  w : Word c.1
  a : IsNm c.2.1
  b : IsNm c.2.2
theorem cp_inv {K : PySem.W.Frag} {H : Hp} {j : Addr} {x : V} {c : Cp} (h : Dx K H j x (cpD c)) : ∃ a, x = .ref a ∧ a ≠ j ∧ SqT K H a (cpV c) := by
  unfold cpD at h
  cases h with
  | @tup a xs ds n s t =>
    refine ⟨a, rfl, n, ?_⟩
    cases t with
    | cons h1 t =>
      cases t with
      | cons h2 t =>
        cases t with
        | cons h3 t =>
          cases t
          cases h1
          cases h2
          cases h3
          exact s
def spOdd (K : PySem.W.Frag) : Sp := fun vs H Q _ => ∃ (j : Addr) (x : V) (c : Cp) (l : List V) (n : Nat), vs = [.ref j, x] ∧ H j = some (.lst l) ∧ JarL l n ∧ n ≤ 10 ^ 8 ∧ Dx K H j x (cpD c) ∧ CpNm c ∧
  ∀ (v : V) (d : PyData) (l' : List V) (H' : Hp), Dx K H' j v d → Gd d 2000 3 → H' j = some (.lst l') → JarL l' (n + 2) → Eff j H H' → Q v H'
theorem nm_gd {x : Str} (h : IsNm x) (k : Nat) : Gd (.str x) 8 k := .str (fun c hc => by have := h.2.2 c hc; omega) h.2.1 (by decide) k
theorem word_gd {x : Str} (h : Word x) (k : Nat) : Gd (.str x) 4 k := by
  rcases h with rfl | rfl
  · exact .str (by decide +kernel) (by decide +kernel) (by decide) k
  · exact .str (by decide +kernel) (by decide +kernel) (by decide) k
theorem lit_gd {x : Str} {n : Nat} (h : (x.cps.toList.all fun c => decide (c < 1000000)) = true) (hl : x.length ≤ n) (hn : n ≤ 10000) (k : Nat) : Gd (.str x) n k :=
  .str (fun c hc => of_decide_eq_true (List.all_eq_true.mp h c hc)) hl hn k
theorem pick {K : PySem.W.Frag} {H : Hp} {j : Addr} {xs : List V} {ds : List PyData} {n k : Nat} {r : Int} (h : DxAll K H j xs ds) (g : Gds ds n k) (r0 : 0 ≤ r) (r1 : r < xs.length) : ∃ v d, atI xs r = some v ∧ Dx K H j v d ∧ Gd d n k := by
  obtain ⟨m, x, rfl, hx, ha⟩ := atI_in r0 r1
  obtain ⟨d, hd, hxd⟩ := h.get hx
  exact ⟨x, d, ha, hxd, g.mem (List.mem_of_getElem? hd)⟩
theorem zC (i : Int) : (cutS (Str.ofString "z") none (some i)).length ≤ 1 ∧ ∀ c ∈ (cutS (Str.ofString "z") none (some i)).cps.toList, c < 1000000 := by
  have hl := cutS_length (Str.ofString "z") none (some i)
  refine ⟨Nat.le_trans hl (by decide +kernel), fun c hc => ?_⟩
  have e : (Str.ofString "z").cps.toList = [122] := by decide +kernel
  unfold cutS at hc
  have hc' : c ∈ (Str.ofString "z").cps.toList := by
    exact List.mem_of_mem_drop (List.mem_of_mem_take (by simpa using hc))
  rw [e] at hc'
  have : c = 122 := by simpa using hc'
  omega
section
variable {P : Program} {w : World} {K : PySem.W.Frag} {mg : Str → Option Value} {base : Heap}
theorem scO : FnScope ["jar", "one", "word", "source", "target", "odd", "some"] ["jar", "one"] (defScope sOdd) := ⟨rfl, rfl, rfl, by decide +kernel, rfl, by decide +kernel, by decide +kernel⟩
theorem ok_odd {f : Addr} {fd : FuncData} (F : Fun K "_law_odd" "_law_odd" sOdd f fd) (B : Bl mg) (DD : Has P w K mg base CX0 1 "_law_dip" ["jar", "many"] spDip) :
    FnOk P w K mg base CX0 2 f fd ["jar", "one"] (spOdd K) := by
  refine F.ok scO (fun vs H Q E h => ?_) (fun cdv A outer s H vs Q E hr h => ?_)
  · obtain ⟨j, x, c, l, n, rfl, _⟩ := h
    rfl
  · obtain ⟨j, x, ⟨cw, ca, cb⟩, l, n, rfl, hj, jl, hn, hx, nm, q⟩ := h
    obtain ⟨a, rfl, haj, hs⟩ := cp_inv hx
    have hs : SqT K H a [.str cw, .str ca, .str cb] := hs
    refine ⟨_, pss_cons (ps_asg (pv 1) (pg_tup rfl (pgs_cons (pg_name (i := 2) scO.nd rfl (.inl rfl)) (pgs_cons (pg_name (i := 3) scO.nd rfl (.inl rfl)) (pgs_cons (pg_name (i := 4) scO.nd rfl (.inl rfl)) pgs_nil)))))
      (pss_cons (ps_set (i := 5) scO.nd rfl (.inl rfl) (pe_ix ix_list (pe_lst (pa_cons pe_str (pa_cons pe_str (pa_cons pe_str (pa_cons pe_str (pa_cons pe_str (pa_cons pe_non (pa_cons pe_int (pa_cons pe_bl
          (pa_cons (pe_lst (pa_cons pe_str pa_nil)) (pa_cons (pe_tup (pa_cons pe_str pa_nil)) (pa_cons pe_dnewK (pa_cons pe_str (pa_cons pe_str (pa_cons (pv 3) pa_nil))))))))))))))) (pe_has DD hr pass0 (pa_cons (pv 0) (pa_cons pe_int pa_nil))) (fun _ _ => rfl)))
      (pss_cons (ps_set (i := 6) scO.nd rfl (.inl rfl) (pe_lst (pa_cons (pe_tup (pa_cons (pv 5) (pa_cons (pv 3) (pa_cons (pv 4) pa_nil)))) (pa_cons (pe_tup (pa_cons (pv 2) (pa_cons (pv 5) (pa_cons (pv 4) pa_nil))))
          (pa_cons (pe_tup (pa_cons (pv 2) (pa_cons (pv 3) (pa_cons (pv 5) pa_nil)))) (pa_cons (pe_tup (pa_cons (pv 2) (pa_cons (pv 3) pa_nil))) (pa_cons (pe_callTy call_list_of (by rfl) B.list (by decide +kernel) (pa_cons (pv 1) pa_nil)) pa_nil)))))))
      (pss_cons (ps_set (i := 6) scO.nd rfl (.inl rfl) (pe_op op_cat (pv 6) (pe_lst (pa_cons (pe_tup (pa_cons (pv 2) (pa_cons (pv 3) (pa_cons (pv 4) (pa_cons pe_str pa_nil))))) (pa_cons (pe_tup (pa_cons (pv 2) (pa_cons (pv 4) (pa_cons (pv 3) pa_nil))))
          (pa_cons (pe_tup (pa_cons pe_str (pa_cons (pv 3) (pa_cons (pv 4) pa_nil)))) pa_nil))))))
      (pss_cons (ps_set (i := 6) scO.nd rfl (.inl rfl) (pe_op op_cat (pv 6) (pe_lst (pa_cons (pe_tup (pa_cons pe_str (pa_cons (pv 3) (pa_cons (pv 4) pa_nil)))) (pa_cons pe_non (pa_cons (pv 2) (pa_cons (pe_tup pa_nil) (pa_cons pe_dnewK pa_nil))))))))
      (pss_one (ps_ret (pe_ix ix_list (pe_op op_cat (pv 6) (pe_lst (pa_cons (pe_tup (pa_cons (pv 2) (pa_cons pe_str (pa_cons (pe_op op_add_str (pv 4) (pe_slice sl_str pe_str po_none (po_some (pe_op op_sub pe_int (pe_callB call_len_str (by rfl) B.len PySem.boot_len (pa_cons (pv 4) pa_nil)))))) pa_nil)))) pa_nil)))
          (pe_has DD hr pass0 (pa_cons (pv 0) (pa_cons pe_int pa_nil))) (fun _ _ => rfl)))))))), ?_⟩
    have gw := fun k => word_gd nm.w k
    have ga := fun k => nm_gd nm.a k
    have gb := fun k => nm_gd nm.b k
    simp only at gw ga gb
    -- word, source, target = one
    refine ⟨_, rfl, a, _, rfl, hs, rfl, _, _, rfl, _, _, rfl, _, _, rfl, rfl, ?_⟩
    -- odd
    refine ⟨by show 1 ≤ sizeLine; decide, fun p1 n1 => ?_⟩
    refine ⟨by show 1 ≤ sizeLine; decide, fun p2 n2 => ?_⟩
    intro p3 n3
    refine ⟨_, rfl, by show 14 ≤ sizeLine; decide, fun p4 n4 => ?_⟩
    have hj1 := (upd_ne (H := H) (o := .lst [.str (Str.ofString "a")]) (ne_of_none hj n1)).trans hj
    have D1 := new_lst (K := K) hj n1 (.one (.str (Str.ofString "a")))
    have S1 := same_new (o := .lst [.str (Str.ofString "a")]) n1
    have D2 := new_tup (K := K) hj1 n2 (.one (.str (Str.ofString "a")))
    have S2 := same_new (o := .tup [.str (Str.ofString "a")]) n2
    generalize upd (upd H p1 (.lst [.str (Str.ofString "a")])) p2 (.tup [.str (Str.ofString "a")]) = H2 at n3 n4 D2 S2 ⊢
    have hj2 := S2 _ _ hj1
    have D3 := new_dic (K := K) hj2 n3
    have S3 := same_new (o := .dK []) n3
    have hj3 := S3 _ _ hj2
    generalize upd H2 p3 (.dK []) = H3 at n4 D3 S3 hj3 ⊢
    have A14 : DxAll K H3 j [.str (Str.ofString ""), .str (Str.ofString "A"), .str (Str.ofString "a b"), .str (Str.ofString "a1"), .str (Str.ofString "abcdefghi"), .non, .int 1, .bl true, .ref p1, .ref p2, .ref p3, .str (Str.ofString "\n"), .str (Str.ofString "-"), .str ca] _ :=
      .cons (.str _) (.cons (.str _) (.cons (.str _) (.cons (.str _) (.cons (.str _) (.cons .non (.cons (.int _) (.cons (.bl _) (.cons ((D1.same S2).same S3) (.cons (D2.same S3) (.cons D3 (.cons (.str _) (.cons (.str _) (.cons (.str _) .nil)))))))))))))
    have G14 := Gds.cons (lit_gd (x := Str.ofString "") (n := 10) (by decide +kernel) (by decide +kernel) (by decide) 1) (.cons (lit_gd (x := Str.ofString "A") (n := 10) (by decide +kernel) (by decide +kernel) (by decide) 1)
      (.cons (lit_gd (x := Str.ofString "a b") (n := 10) (by decide +kernel) (by decide +kernel) (by decide) 1) (.cons (lit_gd (x := Str.ofString "a1") (n := 10) (by decide +kernel) (by decide +kernel) (by decide) 1)
      (.cons (lit_gd (x := Str.ofString "abcdefghi") (n := 10) (by decide +kernel) (by decide +kernel) (by decide) 1) (.cons (Gd.non 1) (.cons (Gd.int (i := 1) (by decide) (by decide) 1) (.cons (Gd.bool true 1)
      (.cons (Gd.lst (.cons (lit_gd (x := Str.ofString "a") (n := 10) (by decide +kernel) (by decide +kernel) (by decide) 0) (.nil 0))) (.cons (Gd.tup (.cons (lit_gd (x := Str.ofString "a") (n := 10) (by decide +kernel) (by decide +kernel) (by decide) 0) (.nil 0)))
      (.cons (Gd.dic0 0) (.cons (lit_gd (x := Str.ofString "\n") (n := 10) (by decide +kernel) (by decide +kernel) (by decide) 1) (.cons (lit_gd (x := Str.ofString "-") (n := 10) (by decide +kernel) (by decide +kernel) (by decide) 1) (.cons (ga 1) (.nil 1))))))))))))))
    refine ⟨_, rfl, j, l, 14, n, rfl, (upd_ne (ne_of_none hj3 n4)).trans hj3, jl, by omega, by decide, by decide, fun r l1 r0 r1 jl1 => ?_⟩
    obtain ⟨ov, od, ho, Do, Go⟩ := pick (r := r) A14 G14 r0 r1
    have Go : Gd od 200 1 := Go.mono (by decide) (by decide)
    have p4j : p4 ≠ j := (ne_of_none hj3 n4).symm
    refine ⟨p4, _, r, _, rfl, rfl, .inl (.inl ((upd_ne p4j).trans upd_same)), ho, ?_⟩
    have E4 : Eff j H (upd (upd H3 p4 (.lst [.str (Str.ofString ""), .str (Str.ofString "A"), .str (Str.ofString "a b"), .str (Str.ofString "a1"), .str (Str.ofString "abcdefghi"), .non, .int 1, .bl true, .ref p1, .ref p2, .ref p3, .str (Str.ofString "\n"), .str (Str.ofString "-"), .str ca])) j (.lst l1)) :=
      (Eff.same ((S1.trans S2).trans (S3.trans (same_new n4)))).atj
    have E34 : Eff j H3 (upd (upd H3 p4 (.lst [.str (Str.ofString ""), .str (Str.ofString "A"), .str (Str.ofString "a b"), .str (Str.ofString "a1"), .str (Str.ofString "abcdefghi"), .non, .int 1, .bl true, .ref p1, .ref p2, .ref p3, .str (Str.ofString "\n"), .str (Str.ofString "-"), .str ca])) j (.lst l1)) :=
      (Eff.same (same_new n4)).atj
    generalize hH4 : upd (upd H3 p4 _) j (.lst l1) = H4 at E4 E34 ⊢
    have hj4 : H4 j = some (.lst l1) := by rw [← hH4]; exact upd_same
    have Do := Do.eff E34
    have hs4 := eff_t E4 haj hs
    clear A14 G14 D1 D2 D3 S1 S2 S3 hH4 E34 hj1 hj2 hj3
    have Do4 := Do
    have A4 : DxAll K H4 j [] [] := .nil

    -- some
    refine ⟨_, rfl, _, rfl, _, rfl, by show 3 ≤ sizeLine; decide, fun t4 m4 => ?_⟩
    have D4 := new_tup (K := K) hj4 m4 (.cons Do4 (.cons (.str ca) (.cons (.str cb) .nil)))
    have S4 := same_new (o := .tup [ov, .str ca, .str cb]) m4
    have hj5 := S4 _ _ hj4
    have Do5 := Do4.same S4
    have A5 := (A4.same S4).app (.one D4)
    have E5 := E4.trans (Eff.same (j := j) S4)
    generalize upd H4 t4 (.tup [ov, .str ca, .str cb]) = H5 at D4 S4 hj5 Do5 A5 E5 ⊢
    refine ⟨_, rfl, _, rfl, _, rfl, by show 3 ≤ sizeLine; decide, fun t5 m5 => ?_⟩
    have D5 := new_tup (K := K) hj5 m5 (.cons (.str cw) (.cons Do5 (.cons (.str cb) .nil)))
    have S5 := same_new (o := .tup [.str cw, ov, .str cb]) m5
    have hj6 := S5 _ _ hj5
    have Do6 := Do5.same S5
    have A6 := (A5.same S5).app (.one D5)
    have E6 := E5.trans (Eff.same (j := j) S5)
    generalize upd H5 t5 (.tup [.str cw, ov, .str cb]) = H6 at D5 S5 hj6 Do6 A6 E6 ⊢
    refine ⟨_, rfl, _, rfl, _, rfl, by show 3 ≤ sizeLine; decide, fun t6 m6 => ?_⟩
    have D6 := new_tup (K := K) hj6 m6 (.cons (.str cw) (.cons (.str ca) (.cons Do6 .nil)))
    have S6 := same_new (o := .tup [.str cw, .str ca, ov]) m6
    have hj7 := S6 _ _ hj6
    have Do7 := Do6.same S6
    have A7 := (A6.same S6).app (.one D6)
    have E7 := E6.trans (Eff.same (j := j) S6)
    generalize upd H6 t6 (.tup [.str cw, .str ca, ov]) = H7 at D6 S6 hj7 Do7 A7 E7 ⊢
    refine ⟨_, rfl, _, rfl, by show 2 ≤ sizeLine; decide, fun t7 m7 => ?_⟩
    have D7 := new_tup (K := K) hj7 m7 (.cons (.str cw) (.cons (.str ca) .nil))
    have S7 := same_new (o := .tup [.str cw, .str ca]) m7
    have hj8 := S7 _ _ hj7
    have Do8 := Do7.same S7
    have A8 := (A7.same S7).app (.one D7)
    have E8 := E7.trans (Eff.same (j := j) S7)
    generalize upd H7 t7 (.tup [.str cw, .str ca]) = H8 at D7 S7 hj8 Do8 A8 E8 ⊢
    refine ⟨_, rfl, a, _, rfl, .inr (eff_t E8 haj hs), fun t8 m8 => ?_⟩
    have D8 := new_lst (K := K) hj8 m8 (.cons (.str cw) (.cons (.str ca) (.cons (.str cb) .nil)))
    have S8 := same_new (o := .lst [.str cw, .str ca, .str cb]) m8
    have hj9 := S8 _ _ hj8
    have Do9 := Do8.same S8
    have A9 := (A8.same S8).app (.one D8)
    have E9 := E8.trans (Eff.same (j := j) S8)
    generalize upd H8 t8 (.lst [.str cw, .str ca, .str cb]) = H9 at D8 S8 hj9 Do9 A9 E9 ⊢
    refine ⟨by show 5 ≤ sizeLine; decide, fun u1 m9 => ?_⟩
    have n9 : u1 ≠ j := (ne_of_none hj9 m9).symm
    have S9 := same_new (o := .lst [.ref t4, .ref t5, .ref t6, .ref t7, .ref t8]) m9
    have hj10 := S9 _ _ hj9
    have Do10 := Do9.same S9
    have A10 := A9.same S9
    have E10 := E9.trans (Eff.same (j := j) S9)
    have L10 : upd H9 u1 (.lst [.ref t4, .ref t5, .ref t6, .ref t7, .ref t8]) u1 = some (.lst [.ref t4, .ref t5, .ref t6, .ref t7, .ref t8]) := upd_same
    generalize upd H9 u1 (.lst [.ref t4, .ref t5, .ref t6, .ref t7, .ref t8]) = H10 at S9 hj10 Do10 A10 E10 L10 ⊢
    -- some + ..
    refine ⟨_, rfl, ?_⟩
    refine ⟨_, rfl, _, rfl, _, rfl, by show 4 ≤ sizeLine; decide, fun t10 m10 => ?_⟩
    have D10 := new_tup (K := K) hj10 m10 (.cons (.str cw) (.cons (.str ca) (.cons (.str cb) (.cons (.str (Str.ofString "a")) .nil))))
    have S10 := same_new (o := .tup [.str cw, .str ca, .str cb, .str (Str.ofString "a")]) m10
    have hj11 := S10 _ _ hj10
    have Do11 := Do10.same S10
    have A11 := (A10.same S10).app (.one D10)
    have E11 := E10.trans (Eff.same (j := j) S10)
    have L11 := S10 _ _ L10
    generalize upd H10 t10 (.tup [.str cw, .str ca, .str cb, .str (Str.ofString "a")]) = H11 at D10 S10 hj11 Do11 A11 E11 L11 ⊢
    refine ⟨_, rfl, _, rfl, _, rfl, by show 3 ≤ sizeLine; decide, fun t11 m11 => ?_⟩
    have D11 := new_tup (K := K) hj11 m11 (.cons (.str cw) (.cons (.str cb) (.cons (.str ca) .nil)))
    have S11 := same_new (o := .tup [.str cw, .str cb, .str ca]) m11
    have hj12 := S11 _ _ hj11
    have Do12 := Do11.same S11
    have A12 := (A11.same S11).app (.one D11)
    have E12 := E11.trans (Eff.same (j := j) S11)
    have L12 := S11 _ _ L11
    generalize upd H11 t11 (.tup [.str cw, .str cb, .str ca]) = H12 at D11 S11 hj12 Do12 A12 E12 L12 ⊢
    refine ⟨_, rfl, _, rfl, by show 3 ≤ sizeLine; decide, fun t12 m12 => ?_⟩
    have D12 := new_tup (K := K) hj12 m12 (.cons (.str (Str.ofString "Over")) (.cons (.str ca) (.cons (.str cb) .nil)))
    have S12 := same_new (o := .tup [.str (Str.ofString "Over"), .str ca, .str cb]) m12
    have hj13 := S12 _ _ hj12
    have Do13 := Do12.same S12
    have A13 := (A12.same S12).app (.one D12)
    have E13 := E12.trans (Eff.same (j := j) S12)
    have L13 := S12 _ _ L12
    generalize upd H12 t12 (.tup [.str (Str.ofString "Over"), .str ca, .str cb]) = H13 at D12 S12 hj13 Do13 A13 E13 L13 ⊢
    refine ⟨by show 3 ≤ sizeLine; decide, fun u2 m13 => ?_⟩
    refine ⟨u1, u2, _, _, rfl, rfl, (upd_ne (ne_of_none L13 m13)).trans L13, upd_same, by show 8 ≤ sizeLine; decide, fun u3 m14 => ?_⟩
    have S13 := same_new (o := .lst [.ref t10, .ref t11, .ref t12]) m13
    have S14 := S13.trans (same_new (o := .lst ([.ref t4, .ref t5, .ref t6, .ref t7, .ref t8] ++ [.ref t10, .ref t11, .ref t12])) m14)
    have hj14 := S14 _ _ hj13
    have Do14 := Do13.same S14
    have A14 := A13.same S14
    have E14 := E13.trans (Eff.same (j := j) S14)
    have L14 : upd (upd H13 u2 (.lst [.ref t10, .ref t11, .ref t12])) u3 (.lst ([.ref t4, .ref t5, .ref t6, .ref t7, .ref t8] ++ [.ref t10, .ref t11, .ref t12])) u3 = some (.lst [.ref t4, .ref t5, .ref t6, .ref t7, .ref t8, .ref t10, .ref t11, .ref t12]) := upd_same
    generalize upd (upd H13 u2 (.lst [.ref t10, .ref t11, .ref t12])) u3 (.lst ([.ref t4, .ref t5, .ref t6, .ref t7, .ref t8] ++ [.ref t10, .ref t11, .ref t12])) = H14 at S14 hj14 Do14 A14 E14 L14 ⊢
    refine ⟨_, rfl, ?_⟩
    refine ⟨_, rfl, _, rfl, by show 3 ≤ sizeLine; decide, fun t14 m14 => ?_⟩
    have D14 := new_tup (K := K) hj14 m14 (.cons (.str (Str.ofString "")) (.cons (.str ca) (.cons (.str cb) .nil)))
    have S14 := same_new (o := .tup [.str (Str.ofString ""), .str ca, .str cb]) m14
    have hj15 := S14 _ _ hj14
    have Do15 := Do14.same S14
    have A15 := (A14.same S14).app (.one D14)
    have E15 := E14.trans (Eff.same (j := j) S14)
    have L15 := S14 _ _ L14
    generalize upd H14 t14 (.tup [.str (Str.ofString ""), .str ca, .str cb]) = H15 at D14 S14 hj15 Do15 A15 E15 L15 ⊢
    refine ⟨_, rfl, ?_⟩
    refine ⟨by show 0 ≤ sizeLine; decide, fun t15 m15 => ?_⟩
    have A15b := (A15.app (.one .non)).app (.one (.str cw))
    have D15 := new_tup (K := K) hj15 m15 .nil
    have S15 := same_new (o := .tup []) m15
    have hj16 := S15 _ _ hj15
    have Do16 := Do15.same S15
    have A16 := (A15b.same S15).app (.one D15)
    have E16 := E15.trans (Eff.same (j := j) S15)
    have L16 := S15 _ _ L15
    generalize upd H15 t15 (.tup []) = H16 at D15 S15 hj16 Do16 A16 E16 L16 ⊢
    intro t16 m16
    have D16 := new_dic (K := K) hj16 m16
    have S16 := same_new (o := .dK []) m16
    have hj17 := S16 _ _ hj16
    have Do17 := Do16.same S16
    have A17 := (A16.same S16).app (.one D16)
    have E17 := E16.trans (Eff.same (j := j) S16)
    have L17 := S16 _ _ L16
    generalize upd H16 t16 (.dK []) = H17 at D16 S16 hj17 Do17 A17 E17 L17 ⊢
    refine ⟨by show 5 ≤ sizeLine; decide, fun u4 m17 => ?_⟩
    refine ⟨u3, u4, _, _, rfl, rfl, (upd_ne (ne_of_none L17 m17)).trans L17, upd_same, by show 13 ≤ sizeLine; decide, fun u5 m18 => ?_⟩
    have S17 := (same_new (o := .lst [.ref t14, .non, .str cw, .ref t15, .ref t16]) m17).trans (same_new (o := .lst ([.ref t4, .ref t5, .ref t6, .ref t7, .ref t8, .ref t10, .ref t11, .ref t12] ++ [.ref t14, .non, .str cw, .ref t15, .ref t16])) m18)
    have hj18 := S17 _ _ hj17
    have A18 := A17.same S17
    have E18 := E17.trans (Eff.same (j := j) S17)
    have L18 : upd (upd H17 u4 (.lst [.ref t14, .non, .str cw, .ref t15, .ref t16])) u5 (.lst ([.ref t4, .ref t5, .ref t6, .ref t7, .ref t8, .ref t10, .ref t11, .ref t12] ++ [.ref t14, .non, .str cw, .ref t15, .ref t16])) u5 = some (.lst [.ref t4, .ref t5, .ref t6, .ref t7, .ref t8, .ref t10, .ref t11, .ref t12, .ref t14, .non, .str cw, .ref t15, .ref t16]) := upd_same
    generalize upd (upd H17 u4 (.lst [.ref t14, .non, .str cw, .ref t15, .ref t16])) u5 (.lst ([.ref t4, .ref t5, .ref t6, .ref t7, .ref t8, .ref t10, .ref t11, .ref t12] ++ [.ref t14, .non, .str cw, .ref t15, .ref t16])) = H18 at S17 hj18 A18 E18 L18 ⊢
    obtain ⟨zl, zc⟩ := zC (8 - (cb.length : Int))
    have lb : cb.length ≤ 8 := nm.b.2.1
    refine ⟨_, rfl, _, rfl, _, rfl, _, rfl, cb, rfl, Nat.le_trans lb (by decide), 8, _, rfl, rfl, _, rfl, _, rfl, by decide +kernel, ?_⟩
    generalize cutS (Str.ofString "z") none (some (8 - (cb.length : Int))) = zz at zl zc
    refine ⟨cb, zz, rfl, rfl, Nat.le_trans (show cb.length + zz.length ≤ 9 by omega) (by decide), by show 3 ≤ sizeLine; decide, fun t19 m19 => ?_⟩
    have D19 := new_tup (K := K) hj18 m19 (.cons (.str cw) (.cons (.str (Str.ofString "abcdefgh")) (.cons (.str (cb ++ zz)) .nil)))
    have S19 := same_new (o := .tup [.str cw, .str (Str.ofString "abcdefgh"), .str (cb ++ zz)]) m19
    have hj19 := S19 _ _ hj18
    have A19 := (A18.same S19).app (.one D19)
    have E19 := E18.trans (Eff.same (j := j) S19)
    have L19 := S19 _ _ L18
    generalize upd H18 t19 (.tup [.str cw, .str (Str.ofString "abcdefgh"), .str (cb ++ zz)]) = H19 at D19 S19 hj19 A19 E19 L19 ⊢
    refine ⟨by show 1 ≤ sizeLine; decide, fun u6 m20 => ?_⟩
    refine ⟨u5, u6, _, _, rfl, rfl, (upd_ne (ne_of_none L19 m20)).trans L19, upd_same, by show 14 ≤ sizeLine; decide, fun u7 m21 => ?_⟩
    have S20 := (same_new (o := .lst [.ref t19]) m20).trans (same_new (o := .lst ([.ref t4, .ref t5, .ref t6, .ref t7, .ref t8, .ref t10, .ref t11, .ref t12, .ref t14, .non, .str cw, .ref t15, .ref t16] ++ [.ref t19])) m21)
    have hj20 := S20 _ _ hj19
    have A20 := A19.same S20
    have E20 := E19.trans (Eff.same (j := j) S20)
    have L20 : upd (upd H19 u6 (.lst [.ref t19])) u7 (.lst ([.ref t4, .ref t5, .ref t6, .ref t7, .ref t8, .ref t10, .ref t11, .ref t12, .ref t14, .non, .str cw, .ref t15, .ref t16] ++ [.ref t19])) u7 = some (.lst [.ref t4, .ref t5, .ref t6, .ref t7, .ref t8, .ref t10, .ref t11, .ref t12, .ref t14, .non, .str cw, .ref t15, .ref t16, .ref t19]) := upd_same
    have n7 : u7 ≠ j := (ne_of_none ((upd_ne (ne_of_none hj19 m20)).trans hj19) m21).symm
    generalize upd (upd H19 u6 (.lst [.ref t19])) u7 (.lst ([.ref t4, .ref t5, .ref t6, .ref t7, .ref t8, .ref t10, .ref t11, .ref t12, .ref t14, .non, .str cw, .ref t15, .ref t16] ++ [.ref t19])) = H20 at S20 hj20 A20 E20 L20 ⊢
    refine ⟨_, rfl, j, l1, 14, n + 1, rfl, hj20, jl1, by omega, by decide, by decide, fun r2 l2 r20 r21 jl2 => ?_⟩
    have g3 := fun (x y z : PyData) (a b c : Nat) (h1 : Gd x a 1) (h2 : Gd y b 1) (h3 : Gd z c 1) => Gd.tup (.cons h1 (.cons h2 (.cons h3 (.nil 1))))
    have ge : Gd (.str (Str.ofString "a")) 10 1 := lit_gd (by decide +kernel) (by decide +kernel) (by decide) 1
    have gov : Gd (.str (Str.ofString "Over")) 10 1 := lit_gd (by decide +kernel) (by decide +kernel) (by decide) 1
    have gem : Gd (.str (Str.ofString "")) 10 1 := lit_gd (by decide +kernel) (by decide +kernel) (by decide) 1
    have gah : Gd (.str (Str.ofString "abcdefgh")) 10 1 := lit_gd (by decide +kernel) (by decide +kernel) (by decide) 1
    have gcz : Gd (.str (cb ++ zz)) 10 1 := .str (fun c hc => by
      rw [Str.cps_append, Array.toList_append] at hc
      rcases List.mem_append.mp hc with h | h
      · have := nm.b.2.2 c h
        omega
      · exact zc c h) (by rw [strLen_append]; omega) (by decide) 1
    have G20 := Gds.cons (g3 _ _ _ _ _ _ Go (ga 1) (gb 1)) (.cons (g3 _ _ _ _ _ _ (gw 1) Go (gb 1)) (.cons (g3 _ _ _ _ _ _ (gw 1) (ga 1) Go) (.cons (Gd.tup (.cons (gw 1) (.cons (ga 1) (.nil 1)))) (.cons (Gd.lst (.cons (gw 1) (.cons (ga 1) (.cons (gb 1) (.nil 1)))))
      (.cons (Gd.tup (.cons (gw 1) (.cons (ga 1) (.cons (gb 1) (.cons ge (.nil 1)))))) (.cons (g3 _ _ _ _ _ _ (gw 1) (gb 1) (ga 1)) (.cons (g3 _ _ _ _ _ _ gov (ga 1) (gb 1)) (.cons (g3 _ _ _ _ _ _ gem (ga 1) (gb 1)) (.cons (Gd.non 2) (.cons (gw 2) (.cons (Gd.tup (.nil 1)) (.cons (Gd.dic0 1)
      (.cons (g3 _ _ _ _ _ _ (gw 1) gah gcz) (.nil 2))))))))))))))
    obtain ⟨v, d, hv, Dv, Gv⟩ := pick (r := r2) A20 G20 r20 r21
    refine ⟨u7, _, r2, v, rfl, rfl, .inl (.inl ((upd_ne n7).trans L20)), hv, ?_⟩
    exact q v d l2 _ (Dv.eff (Eff.refl j H20).atj) (Gv.mono (by decide) (by decide)) upd_same jl2 E20.atj
end
end Cv

/-! part K01L -/
set_option maxRecDepth 100000
set_option maxHeartbeats 4000000
namespace Cv
open PySem PySem.Spec PyProof.Rows L2
def spLaw (K : PySem.W.Frag) : Sp := fun vs H Q _ => ∃ (a : Addr) (ns : List Int), vs = [.ref a] ∧ SqL K H a (ns.map V.int) ∧ ns.length ≤ 63 ∧ ∀ H', Q (.bl true) H'
theorem scL : FnScope ["script", "k", "jar", "plan", "values", "turn", "at", "odd", "thing", "kept", "good", "told", "full", "one"] ["script"] (defScope sLaw) := ⟨rfl, rfl, rfl, by decide +kernel, rfl, by decide +kernel, by decide +kernel⟩
theorem plan_gds : ∀ {cs : List Cp} {ys : List Str}, (∀ c ∈ cs, CpOk ys c) → (∀ y ∈ ys, IsNm y) → Gds (cs.map cpD) (24 * cs.length) 1
  | [], _, _, _ => .nil 1
  | c :: cs, ys, h, hn => by
    have hc := h c List.mem_cons_self
    have t := plan_gds (fun d hd => h d (List.mem_cons_of_mem _ hd)) hn
    have g : Gd (cpD c) 23 1 := Gd.mono (Gd.tup (.cons (word_gd hc.w 0) (.cons (nm_gd (hn _ hc.a) 0) (.cons (nm_gd (hn _ hc.b) 0) (.nil 0))))) (by decide) (by decide)
    have e : 24 * (c :: cs).length = 23 + 1 + 24 * cs.length := by rw [List.length_cons]; omega
    rw [e]
    exact .cons g t
theorem plan_lay : ∀ {cs : List Cp} {ys : List Str}, (∀ c ∈ cs, CpOk ys c) → (∀ y ∈ ys, IsNm y) → PyData.canLayAll0 (cs.map cpD) = true
  | [], _, _, _ => rfl
  | c :: cs, ys, h, hn => by
    have hc := h c List.mem_cons_self
    have t := plan_lay (fun d hd => h d (List.mem_cons_of_mem _ hd)) hn
    have so : ∀ {y : Str}, IsNm y → (PyData.str y).canLay0 = true := fun {y} hy => by
      simp only [PyData.canLay0, PyData.strOk, Array.all_eq_true_iff_forall_mem, decide_eq_true_eq]
      intro d hd
      have := hy.2.2 d (Array.mem_toList_iff.mpr hd)
      omega
    have sw : ∀ {y : Str}, Word y → (PyData.str y).canLay0 = true := fun {y} hy => by
      rcases hy with rfl | rfl
      · decide +kernel
      · decide +kernel
    show (PyData.canLay0 (cpD c) && PyData.canLayAll0 (cs.map cpD)) = true
    rw [t, Bool.and_true]
    show ((PyData.str c.1).canLay0 && ((PyData.str c.2.1).canLay0 && ((PyData.str c.2.2).canLay0 && true))) = true
    rw [sw hc.w, so (hn _ hc.a), so (hn _ hc.b)]
    rfl
theorem plan_shaped {cs : List Cp} {ys : List Str} (h : ∀ c ∈ cs, CpOk ys c) (hn : ∀ y ∈ ys, IsNm y) : SeqAt.shaped (planD cs) = true := by
  have g : (planD cs).depth ≤ 64 := Nat.le_trans (Gd.tup (plan_gds h hn)).dp (by decide)
  have g2 : (planD cs).canLay0 = true := plan_lay h hn
  show ((planD cs).canLay0 && decide ((planD cs).depth ≤ 64)) = true
  rw [g2, decide_eq_true g]
  rfl
theorem plan_cp {cs : List Cp} {ys : List Str} (h : ∀ c ∈ cs, CpOk ys c) (hn : ∀ y ∈ ys, IsNm y) : ∀ c ∈ cs, CpNm c := fun c hc => ⟨(h c hc).w, hn _ (h c hc).a, hn _ (h c hc).b⟩
theorem eq_nil (cs : List Cp) : PyData.eqv (planD cs) (.tuple []) = cs.isEmpty := by
  cases cs with
  | nil => rfl
  | cons c r => rfl
theorem hu64 {A : Around} {k : Nat} (hr : Room k A) : A.units + 64 < cLine := hr.units
def kId : {α : Type} → List α → List α := fun l => l
theorem tup_inv {K : PySem.W.Frag} {H : Hp} {j a : Addr} {ds : List PyData} (h : Dx K H j (.ref a) (.tuple ds)) : a ≠ j ∧ ∃ xs, SqT K H a xs ∧ DxAll K H j xs ds := by
  cases h with
  | tup n s t => exact ⟨n, _, s, t⟩
theorem ref_inv {K : PySem.W.Frag} {H : Hp} {j : Addr} {v : V} {ds : List PyData} (h : Dx K H j v (.tuple ds)) : ∃ a, v = .ref a := by
  cases h with
  | tup n s t => exact ⟨_, rfl⟩
structure VsSt (K : PySem.W.Frag) (H0 H : Hp) (j pa vv : Addr) (n i : Nat) (cs : List Cp) (vs : List V) (ds : List PyData) (l : List V) : Prop where
  ej : Eff j H0 H
  hj : H j = some (.lst l)
  jl : JarL l (n + 3 * i)
  hv : H vv = some (.lst vs)
  nv : vv ≠ j
  dv : DxAll K H j vs ds
  gd : ∀ d ∈ ds, Gd d 30000 4
  vl : vs.length = 13 + 3 * i
  dp : Dx K H j (.ref pa) (planD cs)
theorem cut_map {α : Type} (f : α → PyData) (xs : List α) (lo hi : Option Int) : ∃ ys : List α, cutD (xs.map f) lo hi = ys.map f ∧ ys.length ≤ xs.length ∧ ∀ y ∈ ys, y ∈ xs := by
  refine ⟨(xs.drop (HT.sIx xs.length 0 lo)).take (HT.sIx xs.length xs.length hi - HT.sIx xs.length 0 lo), ?_, ?_, ?_⟩
  · unfold cutD
    rw [List.length_map, List.map_take, List.map_drop]
  · rw [List.length_take, List.length_drop]
    omega
  · intro y hy
    exact List.mem_of_mem_drop (List.mem_of_mem_take hy)
theorem cp_gd {c : Cp} (h : CpNm c) (k : Nat) (hk : 1 ≤ k) : Gd (cpD c) 23 k := Gd.mono (Gd.tup (.cons (word_gd h.w 0) (.cons (nm_gd h.a 0) (.cons (nm_gd h.b 0) (.nil 0))))) (by decide) hk
theorem cps_gd (k : Nat) (hk : 1 ≤ k) : ∀ {cs : List Cp}, (∀ c ∈ cs, CpNm c) → Gds (cs.map cpD) (24 * cs.length) k
  | [], _ => .nil k
  | c :: cs, h => by
    have t := cps_gd k hk (fun d hd => h d (List.mem_cons_of_mem _ hd))
    have e : 24 * (c :: cs).length = 23 + 1 + 24 * cs.length := by rw [List.length_cons]; omega
    rw [e]
    exact .cons (cp_gd (h c List.mem_cons_self) k hk) t
theorem dx_at {K : PySem.W.Frag} {H : Hp} {j : Addr} {xs : List V} {cs : List Cp} {i : Int} (h : DxAll K H j xs (cs.map cpD)) (i0 : 0 ≤ i) (i1 : i < cs.length) : ∃ x c, atI xs i = some x ∧ c ∈ cs ∧ Dx K H j x (cpD c) := by
  have e := h.len
  rw [List.length_map] at e
  obtain ⟨m, x, em, hx, ha⟩ := atI_in (xs := xs) i0 (by omega)
  obtain ⟨d, hd, D⟩ := h.get hx
  rw [List.getElem?_map] at hd
  cases hc : cs[m]? with
  | none => rw [hc] at hd; cases hd
  | some c =>
    rw [hc] at hd
    cases hd
    exact ⟨x, c, ha, List.mem_of_getElem? hc, D⟩
def goodD : PyData → Bool
  | .tuple ds => decide (ds.length ≤ 200)
  | _ => false
theorem all_filt {α : Type} (p : α → Bool) (l : List α) : (l.filter fun x => !p x).isEmpty = l.all p := by
  have h := filt_empty (fun x => !p x) l
  rw [← Bool.not_not (l.filter fun x => !p x).isEmpty, h]
  induction l with
  | nil => rfl
  | cons a l ih =>
    rw [List.any_cons, List.all_cons, Bool.not_or, Bool.not_not, ih (filt_empty _ l)]
def skD : PyData := .tuple [.str (Str.ofString "skip"), .str (Str.ofString "a"), .str (Str.ofString "abcdefgh")]
theorem dx_rep {K : PySem.W.Frag} {H : Hp} {j : Addr} {v : V} {d : PyData} (h : Dx K H j v d) : ∀ n : Nat, DxAll K H j (List.replicate n v) (List.replicate n d)
  | 0 => .nil
  | n + 1 => .cons h (dx_rep h n)
theorem flat_rep {α : Type} (x : α) : ∀ n : Nat, (List.replicate n [x]).flatten = List.replicate n x
  | 0 => rfl
  | n + 1 => by
    rw [List.replicate_succ, List.flatten_cons, flat_rep x n]
    rfl
theorem sk_all (n : Nat) : (List.replicate n skD).all isCopyD = true := by
  rw [List.all_eq_true]
  intro d hd
  rw [List.eq_of_mem_replicate hd]
  decide +kernel
theorem sk_sm : ∀ n : Nat, smAll (List.replicate n skD) = true
  | 0 => rfl
  | n + 1 => by
    show (smD skD && smAll (List.replicate n skD)) = true
    rw [sk_sm n, Bool.and_true]
    decide +kernel
theorem same_l {K : PySem.W.Frag} {H H' : Hp} {a : Addr} {xs : List V} (e : Same H H') (h : SqL K H a xs) : SqL K H' a xs := by
  rcases h with h | h
  · rcases h with h | ⟨o, h⟩
    · exact .inl (.inl (e _ _ h))
    · exact .inl (.inr ⟨o, e _ _ h⟩)
  · exact .inr h
section
variable {P : Program} {w : World} {K : PySem.W.Frag} {mg : Str → Option Value} {base : Heap}
theorem ok_law {f : Addr} {fd : FuncData} (F : Fun K "law" "law" sLaw f fd) (B : Bl mg)
    (DJ : Has P w K mg base CX0 1 "_law_jar" ["cells", "k"] (spJar K)) (DD : Has P w K mg base CX0 1 "_law_dip" ["jar", "many"] spDip) (DN : Has P w K mg base CX0 2 "_law_names" ["jar", "many"] spNames)
    (DP : Has P w K mg base CX0 2 "_law_plan" ["jar", "names_here", "most"] (spPlan K)) (DO : Has P w K mg base CX0 2 "_law_odd" ["jar", "one"] (spOdd K)) (DI : Has P w K mg base CX0 1 "_law_is_copy" ["thing"] (spD K isCopyD))
    (DC : Has P w K mg base CX0 2 "is_copy" ["value"] (spD K isCopyD)) (DS : Has P w K mg base CX0 3 "is_script" ["value"] (spD K isScriptD))
    (KC : HasK P w K mg base CX0 2 "is_copy" ["value"] ["value"] kId (spD K isCopyD)) (KS : HasK P w K mg base CX0 3 "is_script" ["value"] ["value"] kId (spD K isScriptD)) :
    FnG P w K mg base CX0 4 f fd ["script"] (spLaw K) := by
  refine fun_gd F scL (fun vs H Q E h => ?_) (fun cdv A outer s H vs Q E gA hr h => ?_)
  · obtain ⟨a, ns, rfl, _⟩ := h
    rfl
  · obtain ⟨a, ns, rfl, hS, hl, q⟩ := h
    have pv1 := hr
    refine ⟨_, pss_cons (ps_for PassesOwn.never rfl (pi_range1 (by rfl) B.range (pa_cons (pe_callB (call_max2 rfl) (by rfl) B.max (by decide +kernel) (pa_cons pe_int (pa_cons (pe_callB (call_min2 rfl) (by rfl) B.min (by decide +kernel)
            (pa_cons pe_int (pa_cons (pe_callB call_len_seq (by rfl) B.len PySem.boot_len (pa_cons (pv 0) pa_nil)) pa_nil))) pa_nil))) pa_nil)) (pg_name (i := 1) scL.nd rfl (.inl rfl))
        (pss_cons (ps_set (i := 2) scL.nd rfl (.inl rfl) (pe_has DJ hr pass0 (pa_cons (pv 0) (pa_cons (pv 1) pa_nil))))
        (pss_cons (ps_set (i := 3) scL.nd rfl (.inl rfl) (pe_has DP hr pass0 (pa_cons (pv 2) (pa_cons (pe_has DN hr pass0 (pa_cons (pv 2) (pa_cons (pe_op op_add pe_int (pe_has DD hr pass0 (pa_cons (pv 2) (pa_cons pe_int pa_nil)))) pa_nil)))
            (pa_cons (pe_ix ix_list (pe_lst (pa_cons pe_int (pa_cons pe_int pa_nil))) (pe_has DD hr pass0 (pa_cons (pv 2) (pa_cons pe_int pa_nil))) (fun _ _ => rfl)) pa_nil)))))
        (pss_cons (ps_set (i := 4) scL.nd rfl (.inl rfl) (pe_lst (pa_cons (pv 3) (pa_cons (pe_callTy call_list_of (by rfl) B.list (by decide +kernel) (pa_cons (pv 3) pa_nil)) (pa_cons (pe_slice sl_tupA (pv 3) po_none (po_some pe_int))
            (pa_cons (pe_op op_catA (pv 3) (pe_tup (pa_cons pe_non pa_nil))) (pa_cons (pe_tup (pa_cons (pv 3) pa_nil)) (pa_cons pe_non (pa_cons pe_int (pa_cons pe_str (pa_cons pe_str (pa_cons (pe_tup pa_nil) (pa_cons (pe_lst pa_nil) (pa_cons pe_dnewK (pa_cons pe_bl pa_nil)))))))))))))))
        (C8.pss_cut (ps_for PassesOwn.never rfl (pi_range1 (by rfl) B.range (pa_cons (pe_op op_mul pe_int (pe_callTy call_int1 (by rfl) B.int (by decide +kernel) (pa_cons (pe_cmpR (op_neX (hu64 hr)) (pv 3) (pe_tup pa_nil) (nomark _)) pa_nil))) pa_nil)) (pg_name (i := 5) scL.nd rfl (.inl rfl))
          (pss_cons (ps_set (i := 6) scL.nd rfl (.inl rfl) (pe_has DD hr pass0 (pa_cons (pv 2) (pa_cons (pe_callB call_len_seq (by rfl) B.len PySem.boot_len (pa_cons (pv 3) pa_nil)) pa_nil))))
          (pss_cons (ps_set (i := 7) scL.nd rfl (.inl rfl) (pe_has DO hr pass0 (pa_cons (pv 2) (pa_cons (pe_ix ix_tup (pv 3) (pv 6) (fun _ _ => rfl)) pa_nil))))
          (pss_one (ps_set (i := 4) scL.nd rfl (.inl rfl) (pe_op op_cat (pv 4) (pe_lst (pa_cons (pv 7) (pa_cons (pe_op op_catA (pe_op op_catA (pe_slice sl_tupA (pv 3) po_none (po_some (pv 6))) (pe_tup (pa_cons (pv 7) pa_nil)))
              (pe_slice sl_tupA (pv 3) (po_some (pe_op op_add (pv 6) pe_int)) po_none)) (pa_cons (pe_ix ix_tup (pv 3) (pv 6) (fun _ _ => rfl)) pa_nil))))))))))
        (pss_one (ps_for PassesOwn.never rfl (pi_list (pv 4)) (pg_name (i := 8) scL.nd rfl (.inl rfl))
          (pss_cons (ps_set (i := 9) scL.nd rfl (.inl rfl) (pe_callB (call_reprX (hu64 hr) gA) (by rfl) B.repr (by decide +kernel) (pa_cons (pv 8) pa_nil)))
          (C8.pss_cut (ps_set (i := 10) scL.nd rfl (.inl rfl) (pe_and (pe_callB call_isi (by rfl) B.isi (by decide +kernel) (pa_cons (pv 8) (pa_cons (pe_bltn (v := .ty "tuple") (u := .type "tuple") (by rfl) B.tuple (by decide +kernel) rfl) pa_nil)))
              (pe_one (pe_cmpR op_le (pe_callB call_len_seq (by rfl) B.len PySem.boot_len (pa_cons (pv 8) pa_nil)) pe_int (nomark _)))))
          (C8.pss_cut (ps_set (i := 10) scL.nd rfl (.inl rfl) (pe_and (pv 10) (pe_one (pe_cmpR (op_eqL (hu_of' hr)) (pe_lc (own := [("one", 13)]) (tt := tNot (tB (tCl (spD K isCopyD) E0 (tCons (tVar 13) tNil)))) (te := tVar 13) rfl scL.nd (pi_tup (pv 8))
              (blkOk_by (N := ["script", "k", "jar", "plan", "values", "turn", "at", "odd", "thing", "kept", "good", "told", "full", "one"]) (sc := defScope sLaw) (by decide +kernel)) (fun _ _ _ _ _ => pg_name (i := 13) scL.nd rfl (.inl rfl))
              (fun _ _ _ _ _ => pts_one (pt_not (pt_val (pe_has DI hr pass0 (pa_cons (pv 13) pa_nil))))) (fun _ _ _ _ _ => pv 13)) (pe_lst pa_nil) (nomark _)))))
          (pss_cons (ps_set (i := 11) scL.nd rfl (.inl rfl) (pe_lst (pa_cons (pe_has DC hr pass0 (pa_cons (pv 8) pa_nil)) (pa_cons (pe_hasK KC hr pass0 (pk_cons (pv 8) pk_nil)) (pa_cons (pe_has DS hr pass0 (pa_cons (pv 8) pa_nil)) (pa_cons (pe_hasK KS hr pass0 (pk_cons (pv 8) pk_nil)) pa_nil))))))
          (pss_one (ps_if (PW.pt (pw_or (pt_cmpR op_ne (pe_callB (call_reprX (hu64 hr) gA) (by rfl) B.repr (by decide +kernel) (pa_cons (pv 11) pa_nil)) (pe_callB (call_reprX (hu64 hr) gA) (by rfl) B.repr (by decide +kernel)
              (pa_cons (pe_op op_cat (pe_op op_rep (pe_lst (pa_cons (pe_has DI hr pass0 (pa_cons (pv 8) pa_nil)) pa_nil)) pe_int) (pe_op op_rep (pe_lst (pa_cons (pv 10) pa_nil)) pe_int)) pa_nil)) (nomark _))
              (pw_or1 (pt_cmpR op_ne (pe_callB (call_reprX (hu64 hr) gA) (by rfl) B.repr (by decide +kernel) (pa_cons (pv 8) pa_nil)) (pv 9) (nomark _))))) (pss_one (ps_ret pe_bl)) pss_nil)))))))))))))
      (pss_cons (ps_set (i := 12) scL.nd rfl (.inl rfl) (pe_op op_repT (pe_tup (pa_cons (pe_tup (pa_cons pe_str (pa_cons pe_str (pa_cons pe_str pa_nil)))) pa_nil)) pe_int))
      (pss_one (ps_ret (pe_cmpR (op_eqX (hu64 hr)) (pe_lst (pa_cons (pe_has DS hr pass0 (pa_cons (pv 12) pa_nil)) (pa_cons (pe_has DS hr pass0 (pa_cons (pe_op op_catA (pv 12) (pe_slice sl_tupA (pv 12) po_none (po_some pe_int))) pa_nil))
        (pa_cons (pe_has DC hr pass0 (pa_cons (pe_tup (pa_cons pe_str (pa_cons pe_str (pa_cons pe_str pa_nil)))) pa_nil)) pa_nil)))) (pe_lst (pa_cons pe_bl (pa_cons pe_bl (pa_cons pe_bl pa_nil)))) (nomark _))))), ?_⟩
    refine ⟨_, rfl, a, _, rfl, .inl hS, 8, _, rfl, 1, _, rfl, ?_⟩
    obtain ⟨T, hT, hT8⟩ : ∃ T : Int, (if (if ((ns.map V.int).length : Int) < 8 then ((ns.map V.int).length : Int) else 8) > 1 then (if ((ns.map V.int).length : Int) < 8 then ((ns.map V.int).length : Int) else 8) else 1) = T ∧ 0 ≤ T ∧ T ≤ 8 :=
      ⟨_, rfl, by omega, by omega⟩
    refine ⟨T, by rw [← hT], by omega, by omega, ?_⟩
    refine for_range (lo := 0) (n := T.toNat) (fun i σ H' => ∃ x1 x2 x3 x4 x5 x6 x7 x8 x9 x10 x11 x12 x13, σ = [some (.ref a), x1, x2, x3, x4, x5, x6, x7, x8, x9, x10, x11, x12, x13] ∧ Same H H') ?_ ?_ ?_
    · exact ⟨none, none, none, none, none, none, none, none, none, none, none, none, none, rfl, Same.refl H⟩
    · rintro i σ H1 hi ⟨x1, x2, x3, x4, x5, x6, x7, x8, x9, x10, x11, x12, x13, rfl, SH⟩
      -- the jar
      refine ⟨_, rfl, _, rfl, a, ns, _, rfl, same_l SH hS, hl, by omega, by omega, fun j l jl0 nj => ?_⟩
      -- the plan
      refine ⟨_, rfl, _, rfl, _, rfl, j, l, 19, 0, rfl, upd_same, jl0, by decide, by decide, by decide, fun r l1 r0 r1 jl1 => ?_⟩
      refine ⟨2, r, rfl, rfl, j, l1, 2 + r, 1, rfl, upd_same, jl1, by decide, by omega, by omega, fun a2 ys l2 H2 N ha2 hj2 jl2 e2 => ?_⟩
      refine ⟨by show 2 ≤ sizeLine; decide, fun p np => ?_⟩
      have S2 := same_new (o := .lst [V.int 9, V.int 200]) np
      have hj3 := S2 _ _ hj2
      have ha3 := S2 _ _ ha2
      have hp3 : upd H2 p (.lst [V.int 9, V.int 200]) p = some (.lst [V.int 9, V.int 200]) := upd_same
      have e3 := e2.trans (Eff.same (j := j) S2)
      generalize upd H2 p (.lst [V.int 9, V.int 200]) = H3 at hj3 ha3 hp3 e3 ⊢
      refine ⟨_, rfl, j, l2, 2, 201, rfl, hj3, jl2, by decide, by decide, by decide, fun r2 l3 r20 r21 jl3 => ?_⟩
      have a2j : a2 ≠ j := fun z => by rw [z, hj3] at ha3; cases ha3
      have pj : p ≠ j := fun z => by rw [z] at np; rw [np] at hj2; cases hj2
      obtain ⟨mo, hmo, mo0, mo1⟩ : ∃ mo : Int, atI [V.int 9, V.int 200] r2 = some (.int mo) ∧ 0 ≤ mo ∧ mo ≤ 200 := by
        have h2 : r2 = 0 ∨ r2 = 1 := by omega
        rcases h2 with rfl | rfl
        · exact ⟨_, rfl, by decide, by decide⟩
        · exact ⟨_, rfl, by decide, by decide⟩
      refine ⟨p, _, r2, _, rfl, rfl, sqOf ((upd_ne pj).trans hp3), hmo, ?_⟩
      refine ⟨j, a2, l3, mo, 202, ys, rfl, upd_same, jl3, by decide, stOf ((upd_ne a2j).trans ha3), a2j, ?_, ?_, N.2.1, mo0, mo1, fun pa cs l4 H4 PL Dp hj4 jl4 e4 => ?_⟩
      · have := N.1; omega
      · have := N.1; omega
      have e14 : Eff j (upd (upd H1 j (.lst l)) j (.lst l1)) H4 := (e3.trans (Eff.refl j H3).atj).trans e4
      have E14 : Eff j H1 H4 := (((Eff.refl j H1).atj).atj).trans e14
      clear e14 e4 e3 e2 hp3 ha3 ha2 hj3 hj2 hmo
      have hCS := PL.c
      have hlen : cs.length ≤ 200 := by have := PL.l; omega
      have nmC := plan_cp PL.c N.2.2
      clear PL
      obtain ⟨paj, xs, sP, tP⟩ := tup_inv Dp
      -- values
      refine ⟨_, rfl, _, rfl, pa, _, rfl, .inr sP, fun p1 m1 => ?_⟩
      have D1 := new_lst (K := K) hj4 m1 tP
      have S1 := same_new (o := .lst xs) m1
      have Dp5 := Dp.same S1
      have hj5 := S1 _ _ hj4
      have E5 := E14.trans (Eff.same (j := j) S1)
      have A5 := DxAll.cons Dp5 (.one D1)
      generalize upd H4 p1 (.lst xs) = H5 at D1 S1 Dp5 hj5 E5 A5 ⊢
      refine ⟨_, rfl, _, rfl, rd_slT hj5 Dp5 (fun v6 H6 D6 S6 => ?_)⟩
      have Dp6 := Dp5.same S6
      have hj6 := S6 _ _ hj5
      have E6 := E5.trans (Eff.same (j := j) S6)
      have A6 := (A5.same S6).app (.one D6)
      refine ⟨_, rfl, by show 1 ≤ sizeLine; decide, fun p7 m7 => ?_⟩
      have S7 := same_new (o := .tup [V.non]) m7
      have hj7 := S7 _ _ hj6
      have D7 := new_tup (K := K) hj6 m7 (.one .non)
      have Dp7 := Dp6.same S7
      refine rd_catT hj7 Dp7 D7 (by rw [List.length_map]; show cs.length + 1 ≤ 100000; omega) (fun v8 H8 D8 S8 => ?_)
      have S68 := S7.trans S8
      have Dp8 := Dp6.same S68
      have hj8 := S68 _ _ hj6
      have E8 := E6.trans (Eff.same (j := j) S68)
      have A8 := (A6.same S68).app (.one D8)
      refine ⟨_, rfl, by show 1 ≤ sizeLine; decide, fun p9 m9 => ?_⟩
      have D9 := new_tup (K := K) hj8 m9 (.one Dp8)
      have S9 := same_new (o := .tup [V.ref pa]) m9
      have hj9 := S9 _ _ hj8
      have E9 := E8.trans (Eff.same (j := j) S9)
      have A9 := (((((A8.same S9).app (.one D9)).app (.one .non)).app (.one (.int 0))).app (.one (.str (Str.ofString "")))).app (.one (.str (Str.ofString "over")))
      have Dp9 := Dp8.same S9
      generalize upd H8 p9 (.tup [V.ref pa]) = H9 at D9 S9 hj9 E9 A9 Dp9 ⊢
      refine ⟨by show 0 ≤ sizeLine; decide, fun p10 m10 => ?_⟩
      have D10 := new_tup (K := K) hj9 m10 .nil
      have S10 := same_new (o := .tup []) m10
      have hj10 := S10 _ _ hj9
      have E10 := E9.trans (Eff.same (j := j) S10)
      have A10 := (A9.same S10).app (.one D10)
      have Dp10 := Dp9.same S10
      generalize upd H9 p10 (.tup []) = H10 at D10 S10 hj10 E10 A10 Dp10 ⊢
      refine ⟨by show 0 ≤ sizeLine; decide, fun p11 m11 => ?_⟩
      have D11 := new_lst (K := K) hj10 m11 .nil
      have S11 := same_new (o := .lst []) m11
      have hj11 := S11 _ _ hj10
      have E11 := E10.trans (Eff.same (j := j) S11)
      have A11 := (A10.same S11).app (.one D11)
      have Dp11 := Dp10.same S11
      generalize upd H10 p11 (.lst []) = H11 at D11 S11 hj11 E11 A11 Dp11 ⊢
      intro p12 m12
      have D12 := new_dic (K := K) hj11 m12
      have S12 := same_new (o := .dK []) m12
      have hj12 := S12 _ _ hj11
      have E12 := E11.trans (Eff.same (j := j) S12)
      have A12 := ((A11.same S12).app (.one D12)).app (.one (.bl true))
      have Dp12 := Dp11.same S12
      generalize upd H11 p12 (.dK []) = H12 at D12 S12 hj12 E12 A12 Dp12 ⊢
      refine ⟨by show 13 ≤ sizeLine; decide, fun vv m13 => ?_⟩
      have S13 := fun xs : List V => same_new (o := .lst xs) m13
      have gP : Gd (planD cs) 4800 2 := (Gd.tup (cps_gd 1 (by decide) nmC)).mono (by omega) (by decide)
      obtain ⟨cs1, ec1, lc1, mc1⟩ := cut_map cpD cs none (some 1)
      rw [ec1] at A12
      obtain ⟨ds, V13⟩ : ∃ ds, VsSt K H1 (upd H12 vv (.lst [V.ref pa, V.ref p1, v6, v8, V.ref p9, .non, .int 0, .str (Str.ofString ""), .str (Str.ofString "over"), V.ref p10, V.ref p11, V.ref p12, .bl true])) j pa vv 2000 0 cs
          [V.ref pa, V.ref p1, v6, v8, V.ref p9, .non, .int 0, .str (Str.ofString ""), .str (Str.ofString "over"), V.ref p10, V.ref p11, V.ref p12, .bl true] ds l4 := by
        refine ⟨_, E12.trans (Eff.same (S13 _)), S13 _ _ _ hj12, jl4.mono (by decide), upd_same, (ne_of_none hj12 m13).symm, A12.same (S13 _), ?_, rfl, Dp12.same (S13 _)⟩
        have G13 := Gds.cons (gP.mono (k' := 3) (Nat.le_refl _) (by decide)) (.cons ((Gd.lst (cps_gd 1 (by decide) nmC)).mono (n' := 4800) (k' := 3) (by omega) (by decide)) (.cons ((Gd.tup (cps_gd 1 (by decide) (fun c hc => nmC c (mc1 c hc)))).mono (n' := 4800) (k' := 3) (by omega) (by decide))
          (.cons ((Gd.tup ((cps_gd 1 (by decide) nmC).app (.cons (Gd.non 1) (.nil 1)))).mono (n' := 4810) (k' := 3) (by omega) (by decide)) (.cons (Gd.tup (.cons gP (.nil 2))) (.cons (Gd.non 3) (.cons (Gd.int (i := 0) (by decide) (by decide) 3)
          (.cons (lit_gd (x := Str.ofString "") (n := 10) (by decide +kernel) (by decide +kernel) (by decide) 3) (.cons (lit_gd (x := Str.ofString "over") (n := 10) (by decide +kernel) (by decide +kernel) (by decide) 3)
          (.cons ((Gd.tup (.nil 1)).mono (Nat.le_refl _) (by decide)) (.cons ((Gd.lst (.nil 1)).mono (Nat.le_refl _) (by decide)) (.cons ((Gd.dic0 1).mono (Nat.le_refl _) (by decide)) (.cons (Gd.bool true 3) (.nil 3)))))))))))))
        intro d hd
        have := G13.mem hd
        exact this.mono (by decide) (by decide)
      generalize upd H12 vv (.lst _) = H13 at V13 ⊢
      clear D1 S1 A5 D6 S6 A6 S7 D7 D8 S8 S68 A8 D9 A9 D10 S10 A10 D11 S11 A11 D12 S12 A12 S13
      -- the loop that adds values
      refine ⟨fun σ' H' => (∃ (y5 y6 y7 : Option V) (vv : Addr) (vs : List V) (ds : List PyData) (l : List V) (i5 : Nat), σ' = [some (.ref a), some (.int (0 + (i : Int))), some (.ref j), some (.ref pa), some (.ref vv), y5, y6, y7, x8, x9, x10, x11, x12, x13] ∧
          VsSt K H1 H' j pa vv 2000 i5 cs vs ds l ∧ i5 ≤ 12), ?_, ?_⟩
      · obtain ⟨T2, hT2, T20, T212, hcs⟩ : ∃ T2 : Int, 12 * (if (!PyData.eqv (planD cs) (.tuple [])) = true then (1 : Int) else 0) = T2 ∧ 0 ≤ T2 ∧ T2 ≤ 12 ∧ (0 < T2 → 0 < cs.length) := by
          rw [eq_nil]
          cases cs with
          | nil => exact ⟨_, rfl, by decide, by decide, fun z => by simp at z⟩
          | cons c r => exact ⟨_, rfl, by simp, by simp, fun _ => Nat.succ_pos _⟩
        refine ⟨_, rfl, by show 0 ≤ sizeLine; decide, fun p14 m14 => ?_⟩
        have S14 := same_new (o := .tup []) m14
        have D14 := new_tup (K := K) V13.hj m14 .nil
        refine ⟨planD cs, .tuple [], j, j, V13.dp.same S14, D14, plan_shaped hCS N.2.2, by decide, .inr ⟨_, rfl, 12, _, rfl, rfl, .inl ⟨by decide, by decide⟩, T2, by rw [← hT2], by omega, by omega, ?_⟩⟩
        refine for_range (lo := 0) (n := T2.toNat) (fun i5 σ' H' => ∃ (y5 y6 y7 : Option V) (vv : Addr) (vs : List V) (ds : List PyData) (l : List V), σ' = [some (.ref a), some (.int (0 + (i : Int))), some (.ref j), some (.ref pa), some (.ref vv), y5, y6, y7, x8, x9, x10, x11, x12, x13] ∧
            VsSt K H1 H' j pa vv 2000 i5 cs vs ds l) ?_ ?_ ?_
        · exact ⟨x5, x6, x7, vv, _, ds, l4, rfl, V13.ej.trans (Eff.same S14), S14 _ _ V13.hj, V13.jl, S14 _ _ V13.hv, V13.nv, V13.dv.same S14, V13.gd, V13.vl, V13.dp.same S14⟩
        · rintro i5 σ5 H5 hi5 ⟨y5, y6, y7, v5, vs, ds, l5, rfl, W⟩
          have hc0 : 0 < cs.length := hcs (by omega)
          have i512 : i5 < 12 := by omega
          obtain ⟨paj, xs, sP, tP⟩ := tup_inv W.dp
          have lx := tP.len
          rw [List.length_map] at lx
          -- at
          refine ⟨_, rfl, _, rfl, pa, _, rfl, .inr sP, j, l5, _, _, rfl, W.hj, W.jl, by omega, by rw [lx]; omega, by rw [lx]; omega, fun at_ l6 at0 at1 jl6 => ?_⟩
          rw [lx] at at1
          obtain ⟨xc, c, hxc, hc, Dc⟩ := dx_at tP at0 at1
          have e6 : Eff j H5 (upd H5 j (.lst l6)) := (Eff.refl j H5).atj
          have hj6 : upd H5 j (.lst l6) j = some (.lst l6) := upd_same
          generalize upd H5 j (.lst l6) = H6 at e6 hj6 ⊢
          -- odd
          refine ⟨_, rfl, _, rfl, _, rfl, pa, xs, at_, _, rfl, rfl, eff_t e6 paj sP, hxc, j, xc, c, l6, _, rfl, hj6, jl6, by omega, Dc.eff e6, nmC c hc, fun vo od l7 H7 Do Go hj7 jl7 e7 => ?_⟩
          have e57 := e6.trans e7
          have Dp7 := W.dp.eff e57
          have E7 := W.ej.trans e57
          have A7 := W.dv.eff e57
          have hv7 := e57 _ _ W.nv W.hv
          obtain ⟨cs8, e8c, l8c, m8c⟩ := cut_map cpD cs none (some at_)
          obtain ⟨cs9, e9c, l9c, m9c⟩ := cut_map cpD cs (some (at_ + 1)) none
          -- values + [..]
          refine ⟨_, rfl, _, rfl, _, rfl, _, rfl, _, rfl, rd_slT hj7 Dp7 (fun v8 H8 D8 S8 => ?_)⟩
          rw [e8c] at D8
          obtain ⟨b8, rfl⟩ := ref_inv D8
          have hj8 := S8 _ _ hj7
          refine ⟨_, rfl, by show 1 ≤ sizeLine; decide, fun p9 m9 => ?_⟩
          have S9 := S8.trans (same_new (o := .tup [vo]) m9)
          have D9 := new_tup (K := K) hj8 m9 (.one (Do.same S8))
          have D89 := D8.same (same_new (o := .tup [vo]) m9)
          have hj9 := S9 _ _ hj7
          refine rd_catT hj9 D89 D9 ?_ (fun v10 H10 D10 S10 => ?_)
          · rw [List.length_map]
            show cs8.length + 1 ≤ 100000
            omega
          obtain ⟨b10, rfl⟩ := ref_inv D10
          have S710 := S9.trans S10
          have hj10 := S710 _ _ hj7
          refine ⟨_, rfl, _, rfl, _, 1, rfl, rfl, _, rfl, ?_⟩
          dsimp only [tNoPart]
          refine rd_slT hj10 (Dp7.same S710) (fun v11 H11 D11 S11 => ?_)
          rw [e9c] at D11
          obtain ⟨b11, rfl⟩ := ref_inv D11
          have hj11 := S11 _ _ hj10
          refine rd_catT hj11 (D10.same S11) D11 ?_ (fun v12 H12 D12 S12 => ?_)
          · rw [List.length_append, List.length_map, List.length_map]
            show cs8.length + 1 + cs9.length ≤ 100000
            omega
          have S712 := S710.trans (S11.trans S12)
          have hj12 := S712 _ _ hj7
          refine ⟨_, rfl, _, rfl, pa, xs, at_, _, rfl, rfl, ?_, hxc, ?_⟩
          · exact eff_t (e57.trans (Eff.same S712)) paj sP
          refine ⟨by show 3 ≤ sizeLine; decide, fun p13 m13 => ?_⟩
          have S13 := S712.trans (same_new (o := .lst [vo, v12, xc]) m13)
          refine ⟨v5, p13, vs, _, rfl, rfl, S13 _ _ hv7, upd_same, Nat.le_trans (show vs.length + 3 ≤ 100000 by rw [W.vl]; omega) (by decide), fun p14 m14 => ?_⟩
          have S14 := S13.trans (same_new (o := .lst (vs ++ [vo, v12, xc])) m14)
          have hj14 := S14 _ _ hj7
          have e514 := e57.trans (Eff.same (j := j) S14)
          have G12 : Gd (.tuple (cs8.map cpD ++ [od] ++ cs9.map cpD)) 12000 4 := (Gd.tup (((cps_gd 3 (by decide) (fun c hc => nmC c (m8c c hc))).app (.cons Go (.nil 3))).app (cps_gd 3 (by decide) (fun c hc => nmC c (m9c c hc))))).mono (by omega) (by decide)
          have Gc := cp_gd (nmC c hc) 4 (by decide)
          refine ⟨_, _, _, p14, vs ++ [vo, v12, xc], ds ++ [od, .tuple (cs8.map cpD ++ [od] ++ cs9.map cpD), cpD c], l7, rfl, W.ej.trans e514, hj14, jl7.mono (by omega), upd_same, (ne_of_none (S13 _ _ hj7) m14).symm, ?_, ?_, ?_, W.dp.eff e514⟩
          · refine (W.dv.eff e514).app (.cons (Do.same S14) (.cons (D12.same ((same_new (o := .lst [vo, v12, xc]) m13).trans (same_new (o := .lst (vs ++ [vo, v12, xc])) m14))) (.one (Dc.eff e514))))
          · intro d hd
            rcases List.mem_append.mp hd with z | z
            · exact W.gd d z
            · rcases List.mem_cons.mp z with rfl | z
              · exact Go.mono (by decide) (by decide)
              rcases List.mem_cons.mp z with rfl | z
              · exact G12.mono (by decide) (by decide)
              rcases List.mem_cons.mp z with rfl | z
              · exact Gc.mono (by decide) (by decide)
              · cases z
          · rw [List.length_append, W.vl]
            show 13 + 3 * i5 + 3 = 13 + 3 * (i5 + 1)
            omega
        · rintro σ5 H5 ⟨y5, y6, y7, v5, vs, ds, l5, rfl, W⟩
          exact ⟨y5, y6, y7, v5, vs, ds, l5, _, rfl, W, by omega⟩
      · rintro σ5 H5 ⟨y5, y6, y7, v5, vs, ds, l5, i5, rfl, W, i512⟩
        have E15 := W.ej
        have lv : vs.length ≤ 49 := by rw [W.vl]; omega
        have dv := W.dv
        have gd := W.gd
        have hv := W.hv
        have hj5 := W.hj
        clear W V13 gP Dp12 E12 hj12 m13 Dp hCS nmC
        refine ⟨_, rfl, v5, rfl, ⟨vs, sqOf hv⟩, ?_⟩
        refine for_list (xs := vs) (fun i8 σ' H' => ∃ (y8 y9 y10 y11 y12 y13 : Option V), σ' = [some (.ref a), some (.int (0 + (i : Int))), some (.ref j), some (.ref pa), some (.ref v5), y5, y6, y7, y8, y9, y10, y11, y12, y13] ∧ Same H5 H')
          ⟨x8, x9, x10, x11, x12, x13, rfl, Same.refl H5⟩ (fun i8 σ' H' _ h => by obtain ⟨_, _, _, _, _, _, _, h⟩ := h; exact sqOf (h _ _ hv)) ?_ ?_
        · rintro i8 x σ6 H6 hx ⟨y8, y9, y10, y11, y12, y13, rfl, S6⟩
          obtain ⟨d, hd, D⟩ := dv.get hx
          have G := gd d (List.mem_of_getElem? hd)
          have D := D.same S6
          -- kept
          refine ⟨_, rfl, x, d, j, rfl, D, G.sh, G.fits (by decide), Nat.le_trans G.dp (by decide), ?_⟩
          -- good
          refine ⟨fun σ' H' => σ' = [some (.ref a), some (.int (0 + (i : Int))), some (.ref j), some (.ref pa), some (.ref v5), y5, y6, y7, some x, some (.str d.shown), some (.bl (goodD d)), y11, y12, y13] ∧ H' = H6, ?_, ?_⟩
          · refine ⟨x, rfl, x, .ty "tuple", _, _, _, rfl, .ty "tuple", D.ty, kit_ty (kit_tup d), _, rfl, ?_⟩
            cases D with
            | @tup a3 xs3 ds3 n3 s3 t3 =>
              have el := t3.len
              refine ⟨_, rfl, a3, xs3, rfl, .inr s3, _, 200, rfl, rfl, ?_⟩
              have e : decide ((xs3.length : Int) ≤ 200) = goodD (.tuple ds3) := by
                show _ = decide (ds3.length ≤ 200)
                rw [el]
                exact decide_eq_decide.mpr (by omega)
              refine ⟨?_, rfl⟩
              rw [← e]
              rfl
            | non => exact ⟨rfl, rfl⟩
            | bl _ => exact ⟨rfl, rfl⟩
            | int _ => exact ⟨rfl, rfl⟩
            | str _ => exact ⟨rfl, rfl⟩
            | lst _ _ _ => exact ⟨rfl, rfl⟩
            | dic _ _ _ => exact ⟨rfl, rfl⟩
          rintro σ7 H7 ⟨rfl, rfl⟩
          refine ⟨fun σ' H' => (∃ z13, σ' = [some (.ref a), some (.int (0 + (i : Int))), some (.ref j), some (.ref pa), some (.ref v5), y5, y6, y7, some x, some (.str d.shown), some (.bl (isScriptD d)), y11, y12, z13]) ∧ Same H5 H', ?_, ?_⟩
          · refine ⟨_, rfl, _, rfl, ?_⟩
            cases D with
            | @tup a3 xs3 ds3 n3 s3 t3 =>
              refine ite2 (fun c => ?_) (fun c => ?_)
              · have l200 : ds3.length ≤ 200 := of_decide_eq_true c
                have el := t3.len
                have sm := G.sm
                refine ⟨_, rfl, a3, rfl, ⟨xs3, s3⟩, fun D nD => ?_⟩
                refine lc_it walk_tup (fun i H' => (∃ ys : List V, H' D = some (.lst ys) ∧ ys.length ≤ i ∧ ys.isEmpty = (ds3.take i).all isCopyD) ∧ Same H7 H') ⟨⟨[], upd_same, Nat.le_refl _, rfl⟩, same_new nD⟩ (fun i H' _ h => same_t h.2 s3) ?_ ?_
                · rintro k9 x9 Ha Hb hk9 ⟨⟨ys, hD, hyl, hye⟩, e1⟩ ⟨rfl, hc⟩
                  obtain ⟨di, hdi, hxi⟩ := t3.get hc
                  have eT : (ds3.take (k9 + 1)).all isCopyD = ((ds3.take k9).all isCopyD && isCopyD di) := by
                    rw [List.take_add_one, hdi, List.all_append]
                    show (_ && (isCopyD di && true)) = _
                    rw [Bool.and_true]
                  refine ⟨rfl, ⟨x9, rfl, j, x9, di, rfl, hxi.same e1, smAll_mem (by simpa [smD] using sm) (List.mem_of_getElem? hdi), fun H3 e3 => ⟨_, rfl, ite2 (fun k => ?_) (fun k => ?_)⟩⟩⟩
                  · refine ⟨x9, rfl, ys, e3 _ _ hD, small1000 (by omega), ⟨ys ++ [x9], upd_same, ?_, ?_⟩, same_up (e1.trans e3) nD⟩
                    · rw [List.length_append]
                      exact Nat.succ_le_succ hyl
                    · have k' : isCopyD di = false := by simpa using k
                      rw [eT, k', Bool.and_false]
                      cases ys <;> rfl
                  · refine ⟨⟨ys, e3 _ _ hD, Nat.le_succ_of_le hyl, ?_⟩, e1.trans e3⟩
                    have k' : isCopyD di = true := by simpa using k
                    rw [eT, k', Bool.and_true]
                    exact hye
                rintro Ha ⟨⟨ys, hD, hyl, hye⟩, e1⟩
                refine ⟨by decide, fun p np => ?_⟩
                refine ⟨D, p, ys, rfl, rfl, sqOf0 ((upd_ne (ne_of_none hD np)).trans hD), sqOf0 upd_same, ?_⟩
                refine ⟨⟨y13, ?_⟩, S6.trans (e1.trans (same_new np))⟩
                have e : isScriptD (.tuple ds3) = ys.isEmpty := by
                  rw [hye, List.take_of_length_le (by omega)]
                  show (goodD (.tuple ds3) && ds3.all isCopyD) = _
                  rw [c, Bool.true_and]
                rw [e]
                rfl
              · refine ⟨⟨y13, ?_⟩, S6⟩
                have e : isScriptD (.tuple ds3) = false := by
                  show (goodD (.tuple ds3) && ds3.all isCopyD) = false
                  rw [Bool.eq_false_iff.mpr c]
                  rfl
                rw [e]
                rfl
            | non => exact ⟨⟨_, rfl⟩, S6⟩
            | bl _ => exact ⟨⟨_, rfl⟩, S6⟩
            | int _ => exact ⟨⟨_, rfl⟩, S6⟩
            | str _ => exact ⟨⟨_, rfl⟩, S6⟩
            | lst _ _ _ => exact ⟨⟨_, rfl⟩, S6⟩
            | dic _ _ _ => exact ⟨⟨_, rfl⟩, S6⟩
          rintro σ8 H8 ⟨⟨z13, rfl⟩, S8⟩
          have sm := G.sm
          have D := ((dv.get hx).elim fun d' h' => (by
            have e : d' = d := by
              have h1 := h'.1
              rw [hd] at h1
              cases h1
              rfl
            exact e ▸ h'.2 : Dx K H5 j x d))
          -- told
          refine ⟨_, rfl, j, x, d, rfl, D.same S8, sm, fun H9 S9 => ?_⟩
          refine ⟨_, rfl, rfl, j, x, d, rfl, D.same (S8.trans S9), sm, fun H10 S10 => ?_⟩
          refine ⟨_, rfl, j, x, d, rfl, D.same (S8.trans (S9.trans S10)), sm, fun H11 S11 => ?_⟩
          refine ⟨_, rfl, rfl, j, x, d, rfl, D.same (S8.trans (S9.trans (S10.trans S11))), sm, fun H12 S12 => ?_⟩
          refine ⟨by show 4 ≤ sizeLine; decide, fun p1 n1 => ?_⟩
          have S13 := S8.trans (S9.trans (S10.trans (S11.trans S12)))
          clear S9 S10 S11 S12
          have hj13 := S13 _ _ hj5
          have DT := new_lst (K := K) hj13 n1 (.cons (.bl (isCopyD d)) (.cons (.bl (isCopyD d)) (.cons (.bl (isScriptD d)) (.one (.bl (isScriptD d))))))
          have S14 := S13.trans (same_new (o := .lst [.bl (isCopyD d), .bl (isCopyD d), .bl (isScriptD d), .bl (isScriptD d)]) n1)
          generalize upd H12 p1 (.lst [.bl (isCopyD d), .bl (isCopyD d), .bl (isScriptD d), .bl (isScriptD d)]) = H14 at DT S14 ⊢
          have GT : Gd (.list [.bool (isCopyD d), .bool (isCopyD d), .bool (isScriptD d), .bool (isScriptD d)]) 4 2 := Gd.lst (.cons (Gd.bool _ 1) (.cons (Gd.bool _ 1) (.cons (Gd.bool _ 1) (.cons (Gd.bool _ 1) (.nil 1)))))
          -- repr(told) != repr(..)
          refine ⟨_, rfl, _, _, j, rfl, DT, GT.sh, GT.fits (by decide), Nat.le_trans GT.dp (by decide), ?_⟩
          refine ⟨_, rfl, j, x, d, rfl, D.same S14, sm, fun H15 S15 => ?_⟩
          refine ⟨by show 1 ≤ sizeLine; decide, fun p2 n2 => ?_⟩
          have h15 := (S14.trans S15) _ _ hj5
          have h2a : upd H15 p2 (.lst [.bl (isCopyD d)]) j = some (.lst l5) := (upd_ne (ne_of_none h15 n2)).trans h15
          refine ⟨p2, 2, _, rfl, rfl, upd_same, by decide, by decide, by show 2 ≤ sizeLine; decide, fun p3 n3 => ?_⟩
          have h3p : upd (upd H15 p2 (.lst [.bl (isCopyD d)])) p3 (.lst [.bl (isCopyD d), .bl (isCopyD d)]) p3 = some (.lst [.bl (isCopyD d), .bl (isCopyD d)]) := upd_same
          have S17 : Same H15 (upd (upd H15 p2 (.lst [.bl (isCopyD d)])) p3 (.lst [.bl (isCopyD d), .bl (isCopyD d)])) := (same_new n2).trans (same_new n3)
          show tOp rRep _ _ _ (upd (upd H15 p2 (.lst [.bl (isCopyD d)])) p3 (.lst [.bl (isCopyD d), .bl (isCopyD d)])) _
          generalize upd (upd H15 p2 (.lst [.bl (isCopyD d)])) p3 (.lst [.bl (isCopyD d), .bl (isCopyD d)]) = H17 at h3p S17 ⊢
          refine ⟨_, rfl, by show 1 ≤ sizeLine; decide, fun p4 n4 => ?_⟩
          refine ⟨p4, 2, _, rfl, rfl, upd_same, by decide, by decide, by show 2 ≤ sizeLine; decide, fun p5 n5 => ?_⟩
          have S19 : Same H17 (upd (upd H17 p4 (.lst [.bl (isScriptD d)])) p5 (.lst [.bl (isScriptD d), .bl (isScriptD d)])) := (same_new n4).trans (same_new n5)
          refine ⟨p3, p5, _, [.bl (isScriptD d), .bl (isScriptD d)], rfl, rfl, S19 _ _ h3p, upd_same, by show 4 ≤ sizeLine; decide, fun p6 n6 => ?_⟩
          have S16 := (S14.trans (S15.trans S17)).trans S19
          have DT2 := new_lst (K := K) (S16 _ _ hj5) n6 (.cons (.bl (isCopyD d)) (.cons (.bl (isCopyD d)) (.cons (.bl (isScriptD d)) (.one (.bl (isScriptD d))))))
          have S20 := S16.trans (same_new (o := .lst [.bl (isCopyD d), .bl (isCopyD d), .bl (isScriptD d), .bl (isScriptD d)]) n6)
          refine ⟨_, _, j, rfl, DT2, GT.sh, GT.fits (by decide), Nat.le_trans GT.dp (by decide), rfl, _, rfl, ?_⟩
          refine ite2 (fun c => ?_) (fun c => ?_)
          · exact absurd c (by simp)
          refine ⟨_, rfl, x, d, j, rfl, D.same S20, G.sh, G.fits (by decide), Nat.le_trans G.dp (by decide), _, rfl, rfl, _, rfl, ?_⟩
          refine ite2 (fun c => ?_) (fun c => ?_)
          · exact absurd c (by simp)
          exact ⟨_, _, _, _, _, _, rfl, S20⟩
        · rintro σ6 H6 ⟨y8, y9, y10, y11, y12, y13, rfl, S6⟩
          refine ⟨_, _, _, _, _, _, _, _, _, _, _, _, _, rfl, ?_⟩
          exact SH.trans fun b o hb => (E15.trans (Eff.same S6)) b o (fun z => by rw [z, nj] at hb; cases hb) hb
    · rintro σ H1 ⟨x1, x2, x3, x4, x5, x6, x7, x8, x9, x10, x11, x12, x13, rfl, SH⟩
      refine ⟨by show 3 ≤ sizeLine; decide, fun p1 n1 => ?_⟩
      refine ⟨by show 1 ≤ sizeLine; decide, fun p2 n2 => ?_⟩
      have p21 : p1 ≠ p2 := ne_of_none upd_same n2
      refine ⟨p2, 200, _, rfl, rfl, stOf upd_same, by simp, by decide, by decide, by show 1 ≤ 1000; decide, fun p3 n3 => ?_⟩
      have p23 : p3 ≠ p2 := (ne_of_none upd_same n3).symm
      have h2 : upd (upd H1 p1 (.tup [.str (Str.ofString "skip"), .str (Str.ofString "a"), .str (Str.ofString "abcdefgh")])) p2 (.tup [.ref p1]) p2 = some (.tup [.ref p1]) := upd_same
      have h1 : upd (upd H1 p1 (.tup [.str (Str.ofString "skip"), .str (Str.ofString "a"), .str (Str.ofString "abcdefgh")])) p2 (.tup [.ref p1]) p1 = some (.tup [.str (Str.ofString "skip"), .str (Str.ofString "a"), .str (Str.ofString "abcdefgh")]) := (upd_ne p21).trans upd_same
      generalize upd (upd H1 p1 _) p2 (.tup [.ref p1]) = H2 at h1 h2 n3 ⊢
      have d1 : Dx K H2 p2 (.ref p1) skD := .tup p21 (stOf h1) (.cons (.str _) (.cons (.str _) (.one (.str _))))
      have D3 : Dx K (upd H2 p3 (.tup (List.replicate 200 [V.ref p1]).flatten)) p2 (.ref p3) (.tuple (List.replicate 200 skD)) := by
        refine new_tup h2 n3 ?_
        rw [flat_rep]
        exact dx_rep d1 200
      have h3 := (same_new (o := .tup (List.replicate 200 [V.ref p1]).flatten) n3) _ _ h2
      have e3 : (Int.toNat 200) = 200 := rfl
      rw [e3]
      generalize upd H2 p3 (.tup (List.replicate 200 [V.ref p1]).flatten) = H3 at D3 h3 ⊢
      refine ⟨_, rfl, p2, .ref p3, _, rfl, D3, by show smAll _ = true; exact sk_sm 200, fun H4 S4 => ?_⟩
      have h4 := S4 _ _ h3
      refine ⟨_, rfl, _, rfl, _, rfl, rd_slT h4 (D3.same S4) (fun v5 H5 D5 S5 => ?_)⟩
      have ec : cutD (List.replicate 200 skD) none (some 1) = [skD] := by rfl
      rw [ec] at D5
      obtain ⟨b5, rfl⟩ := ref_inv D5
      have h5 := S5 _ _ h4
      refine rd_catT h5 ((D3.same S4).same S5) D5 (by decide) (fun v6 H6 D6 S6 => ?_)
      have h6 := S6 _ _ h5
      have sm6 : smAll (List.replicate 200 skD ++ [skD]) = true := by
        have : (List.replicate 200 skD ++ [skD]) = List.replicate 201 skD := by rw [List.replicate_succ' (n := 200)]
        rw [this]
        exact sk_sm 201
      refine ⟨p2, v6, _, rfl, D6, by show smAll _ = true; exact sm6, fun H7 S7 => ?_⟩
      have h7 := S7 _ _ h6
      refine ⟨by show 3 ≤ sizeLine; decide, fun p8 n8 => ?_⟩
      have D8 := new_tup (K := K) h7 n8 (.cons (.str (Str.ofString "over")) (.cons (.str (Str.ofString "a")) (.one (.str (Str.ofString "a")))))
      refine ⟨p2, _, _, rfl, D8, by decide +kernel, fun H9 S9 => ?_⟩
      have h9 := S9 _ _ ((same_new n8) _ _ h7)
      refine ⟨by show 3 ≤ sizeLine; decide, fun p10 n10 => ?_⟩
      have h10 := (same_new (o := .lst [.bl (isScriptD (.tuple (List.replicate 200 skD))), .bl (isScriptD (.tuple (List.replicate 200 skD ++ [skD]))), .bl (isCopyD (.tuple [.str (Str.ofString "over"), .str (Str.ofString "a"), .str (Str.ofString "a")]))]) n10) _ _ h9
      refine ⟨by show 3 ≤ sizeLine; decide, fun p11 n11 => ?_⟩
      have e1 : isScriptD (.tuple (List.replicate 200 skD)) = true := by
        show (decide ((List.replicate 200 skD).length ≤ 200) && (List.replicate 200 skD).all isCopyD) = true
        rw [sk_all, List.length_replicate]
        rfl
      have e2 : isScriptD (.tuple (List.replicate 200 skD ++ [skD])) = false := by
        show (decide ((List.replicate 200 skD ++ [skD]).length ≤ 200) && (List.replicate 200 skD ++ [skD]).all isCopyD) = false
        rw [List.length_append, List.length_replicate]
        rfl
      have e3 : isCopyD (.tuple [.str (Str.ofString "over"), .str (Str.ofString "a"), .str (Str.ofString "a")]) = false := by decide +kernel
      refine ⟨.list [.bool (isScriptD (.tuple (List.replicate 200 skD))), .bool (isScriptD (.tuple (List.replicate 200 skD ++ [skD]))), .bool (isCopyD (.tuple [.str (Str.ofString "over"), .str (Str.ofString "a"), .str (Str.ofString "a")]))], .list [.bool true, .bool false, .bool false], p2, p2,
        (new_lst (K := K) h9 n10 (.cons (.bl (isScriptD (.tuple (List.replicate 200 skD)))) (.cons (.bl (isScriptD (.tuple (List.replicate 200 skD ++ [skD])))) (.one (.bl (isCopyD (.tuple [.str (Str.ofString "over"), .str (Str.ofString "a"), .str (Str.ofString "a")]))))))).same (same_new (o := .lst [.bl true, .bl false, .bl false]) n11), new_lst (K := K) h10 n11 (.cons (.bl true) (.cons (.bl false) (.one (.bl false)))), by decide, by decide, ?_⟩
      rw [e1, e2, e3]
      exact q _
end
end Cv

/-! part K01M -/
set_option maxRecDepth 100000
set_option maxHeartbeats 4000000
namespace Cv
open PySem PySem.Spec PyProof.Rows L2
theorem has_of {P : Program} {w : World} {K : PySem.W.Frag} {mg : Str → Option Value} {base : Heap} {k : Nat} {x : Str} {qual : Str} {st : Stmt} {f : Addr} {fd : FuncData} {ps : List Str} {sp : Sp} (G : FnOk P w K mg base CX0 k f fd ps sp) (hm : mg x = some (.ref f)) (F : Fun K x qual st f fd) (b : Binds K fd ps []) :
    Has P w K mg base CX0 k x ps sp := ⟨f, fd, G, hm, F.kp, b⟩
theorem hasK1 {P : Program} {w : World} {K : PySem.W.Frag} {mg : Str → Option Value} {base : Heap} {k : Nat} {x : Str} {qual : Str} {st : Stmt} {f : Addr} {fd : FuncData} {p : Str} {sp : Sp} (G : FnOk P w K mg base CX0 k f fd [p] sp) (hm : mg x = some (.ref f)) (F : Fun K x qual st f fd)
    (hb : ∀ (s : Shared) (u : Value), BindsTo s fd ⟨[], [(p, u)]⟩ [(p, u)]) : HasK P w K mg base CX0 k x [p] [p] kId sp := by
  refine ⟨f, fd, G, hm, F.kp, fun s ws h => ?_, fun {zs ws} h _ => h⟩
  match ws, h with
  | [u], _ => exact hb s u
theorem all_mk {l : PySem.W.OpenLaw} {w : World} {K : PySem.W.Frag} {h : Heap} {mg : Str → Option Value} {fa f1 f2 f3 f4 f5 f6 f7 f8 f9 f10 aw : Addr} (X : K.In h) (G : h.Ns mainGlobals mg) (hfa : mg "law" = some (.ref fa))
    {od1 an1 od2 an2 od3 an3 od4 an4 od5 an5 od6 an6 od7 an7 od8 an8 od9 an9 od10 an10 odw : Option Addr} {sl1 sl2 sl3 sl4 sl5 sl6 sl7 sl8 sl9 sl10 slw : Array (Option Value)} {oc1 kV1 dc1 pm1 cd1 ct1 oc2 kV2 dc2 pm2 cd2 ct2 oc3 kV3 dc3 pm3 cd3 ct3 oc4 kV4 dc4 pm4 cd4 ct4 oc5 kV5 dc5 pm5 cd5 ct5 oc6 kV6 dc6 pm6 cd6 ct6 oc7 kV7 dc7 pm7 cd7 ct7 oc8 kV8 dc8 pm8 cd8 ct8 oc9 kV9 dc9 pm9 cd9 ct9 oc10 kV10 dc10 pm10 cd10 ct10 : Value} {itsw : Array Value} {nw : Nat} {tl tc t1 t2 : Tok}
    (a1 : PySem.W.nsIn K mainGlobals "is_name" = some (some (.ref f1))) (l1 : K.lookup f1 = some ⟨oc1, od1, .func (PySem.W.fnOf "is_name" "is_name" (defArgs sName) (defBody sName) (defScope sName) .none kV1 dc1 pm1 an1 cd1 ct1), sl1⟩) (c1 : PySem.W.codeIn K cd1 "is_name" = true) (k1 : PySem.W.keepIn K (.ref f1) = true)
    (a2 : PySem.W.nsIn K mainGlobals "is_copy" = some (some (.ref f2))) (l2 : K.lookup f2 = some ⟨oc2, od2, .func (PySem.W.fnOf "is_copy" "is_copy" (defArgs sCopy) (defBody sCopy) (defScope sCopy) .none kV2 dc2 pm2 an2 cd2 ct2), sl2⟩) (c2 : PySem.W.codeIn K cd2 "is_copy" = true) (k2 : PySem.W.keepIn K (.ref f2) = true)
    (a3 : PySem.W.nsIn K mainGlobals "is_script" = some (some (.ref f3))) (l3 : K.lookup f3 = some ⟨oc3, od3, .func (PySem.W.fnOf "is_script" "is_script" (defArgs sScript) (defBody sScript) (defScope sScript) .none kV3 dc3 pm3 an3 cd3 ct3), sl3⟩) (c3 : PySem.W.codeIn K cd3 "is_script" = true) (k3 : PySem.W.keepIn K (.ref f3) = true)
    (a4 : PySem.W.nsIn K mainGlobals "_law_jar" = some (some (.ref f4))) (l4 : K.lookup f4 = some ⟨oc4, od4, .func (PySem.W.fnOf "_law_jar" "_law_jar" (defArgs sJar) (defBody sJar) (defScope sJar) .none kV4 dc4 pm4 an4 cd4 ct4), sl4⟩) (c4 : PySem.W.codeIn K cd4 "_law_jar" = true) (k4 : PySem.W.keepIn K (.ref f4) = true)
    (a5 : PySem.W.nsIn K mainGlobals "_law_dip" = some (some (.ref f5))) (l5 : K.lookup f5 = some ⟨oc5, od5, .func (PySem.W.fnOf "_law_dip" "_law_dip" (defArgs sDip) (defBody sDip) (defScope sDip) .none kV5 dc5 pm5 an5 cd5 ct5), sl5⟩) (c5 : PySem.W.codeIn K cd5 "_law_dip" = true) (k5 : PySem.W.keepIn K (.ref f5) = true)
    (a6 : PySem.W.nsIn K mainGlobals "_law_names" = some (some (.ref f6))) (l6 : K.lookup f6 = some ⟨oc6, od6, .func (PySem.W.fnOf "_law_names" "_law_names" (defArgs sNames) (defBody sNames) (defScope sNames) .none kV6 dc6 pm6 an6 cd6 ct6), sl6⟩) (c6 : PySem.W.codeIn K cd6 "_law_names" = true) (k6 : PySem.W.keepIn K (.ref f6) = true)
    (a7 : PySem.W.nsIn K mainGlobals "_law_plan" = some (some (.ref f7))) (l7 : K.lookup f7 = some ⟨oc7, od7, .func (PySem.W.fnOf "_law_plan" "_law_plan" (defArgs sPlan) (defBody sPlan) (defScope sPlan) .none kV7 dc7 pm7 an7 cd7 ct7), sl7⟩) (c7 : PySem.W.codeIn K cd7 "_law_plan" = true) (k7 : PySem.W.keepIn K (.ref f7) = true)
    (a8 : PySem.W.nsIn K mainGlobals "_law_is_copy" = some (some (.ref f8))) (l8 : K.lookup f8 = some ⟨oc8, od8, .func (PySem.W.fnOf "_law_is_copy" "_law_is_copy" (defArgs sIsC) (defBody sIsC) (defScope sIsC) .none kV8 dc8 pm8 an8 cd8 ct8), sl8⟩) (c8 : PySem.W.codeIn K cd8 "_law_is_copy" = true) (k8 : PySem.W.keepIn K (.ref f8) = true)
    (a9 : PySem.W.nsIn K mainGlobals "_law_odd" = some (some (.ref f9))) (l9 : K.lookup f9 = some ⟨oc9, od9, .func (PySem.W.fnOf "_law_odd" "_law_odd" (defArgs sOdd) (defBody sOdd) (defScope sOdd) .none kV9 dc9 pm9 an9 cd9 ct9), sl9⟩) (c9 : PySem.W.codeIn K cd9 "_law_odd" = true) (k9 : PySem.W.keepIn K (.ref f9) = true)
    (a10 : PySem.W.nsIn K mainGlobals "law" = some (some (.ref f10))) (l10 : K.lookup f10 = some ⟨oc10, od10, .func (PySem.W.fnOf "law" "law" (defArgs sLaw) (defBody sLaw) (defScope sLaw) .none kV10 dc10 pm10 an10 cd10 ct10), sl10⟩) (c10 : PySem.W.codeIn K cd10 "law" = true) (k10 : PySem.W.keepIn K (.ref f10) = true)
    (y1 : PySem.W.nsIn K mainGlobals "LONGEST_NAME" = some (some (.int 8 tl))) (y2 : PySem.W.nsIn K mainGlobals "MOST_COPIES" = some (some (.int 200 tc))) (y3 : PySem.W.nsIn K mainGlobals "WORDS" = some (some (.ref aw)))
    (y4 : K.lookup aw = some ⟨.type "tuple", odw, .seq itsw nw, slw⟩) (y5 : itsw = #[.str (Str.ofString "over") t1, .str (Str.ofString "skip") t2])
    (z1 : PySem.W.nsIn K mainGlobals "len" = some none) (z2 : PySem.W.nsIn K mainGlobals "list" = some none) (z3 : PySem.W.nsIn K mainGlobals "tuple" = some none) (z4 : PySem.W.nsIn K mainGlobals "range" = some none) (z5 : PySem.W.nsIn K mainGlobals "abs" = some none) (z6 : PySem.W.nsIn K mainGlobals "max" = some none) (z7 : PySem.W.nsIn K mainGlobals "min" = some none) (z8 : PySem.W.nsIn K mainGlobals "int" = some none) (z9 : PySem.W.nsIn K mainGlobals "isinstance" = some none) (z10 : PySem.W.nsIn K mainGlobals "str" = some none) (z11 : PySem.W.nsIn K mainGlobals "all" = some none) (z12 : PySem.W.nsIn K mainGlobals "repr" = some none) :
    ∃ fd : FuncData, (∀ (s : Shared) (v : Value), BindsTo s fd ⟨[v], []⟩ [("script", v)]) ∧ ∀ base : Heap, K.In base → base.Ns mainGlobals mg → FnG l.prog w K mg base CX0 4 fa fd ["script"] (spLaw K) := by
  have e := hfa.symm.trans (PySem.W.mg_of X G a10)
  cases e
  have F1 := fun_mk (st := sName) l1 c1 k1
  have F2 := fun_mk (st := sCopy) l2 c2 k2
  have F3 := fun_mk (st := sScript) l3 c3 k3
  have F4 := fun_mk (st := sJar) l4 c4 k4
  have F5 := fun_mk (st := sDip) l5 c5 k5
  have F6 := fun_mk (st := sNames) l6 c6 k6
  have F7 := fun_mk (st := sPlan) l7 c7 k7
  have F8 := fun_mk (st := sIsC) l8 c8 k8
  have F9 := fun_mk (st := sOdd) l9 c9 k9
  have F10 := fun_mk (st := sLaw) l10 c10 k10
  have b1 := F1.binds (ps := ["value"]) fun _ _ _ _ _ _ us hl => match us, hl with | [_], _ => rfl
  have m1 := PySem.W.mg_of X G a1
  have b2 := F2.binds (ps := ["value"]) fun _ _ _ _ _ _ us hl => match us, hl with | [_], _ => rfl
  have m2 := PySem.W.mg_of X G a2
  have b3 := F3.binds (ps := ["value"]) fun _ _ _ _ _ _ us hl => match us, hl with | [_], _ => rfl
  have m3 := PySem.W.mg_of X G a3
  have b4 := F4.binds (ps := ["cells", "k"]) fun _ _ _ _ _ _ us hl => match us, hl with | [_, _], _ => rfl
  have m4 := PySem.W.mg_of X G a4
  have b5 := F5.binds (ps := ["jar", "many"]) fun _ _ _ _ _ _ us hl => match us, hl with | [_, _], _ => rfl
  have m5 := PySem.W.mg_of X G a5
  have b6 := F6.binds (ps := ["jar", "many"]) fun _ _ _ _ _ _ us hl => match us, hl with | [_, _], _ => rfl
  have m6 := PySem.W.mg_of X G a6
  have b7 := F7.binds (ps := ["jar", "names_here", "most"]) fun _ _ _ _ _ _ us hl => match us, hl with | [_, _, _], _ => rfl
  have m7 := PySem.W.mg_of X G a7
  have b8 := F8.binds (ps := ["thing"]) fun _ _ _ _ _ _ us hl => match us, hl with | [_], _ => rfl
  have m8 := PySem.W.mg_of X G a8
  have b9 := F9.binds (ps := ["jar", "one"]) fun _ _ _ _ _ _ us hl => match us, hl with | [_, _], _ => rfl
  have m9 := PySem.W.mg_of X G a9
  have B : Bl mg := ⟨PySem.W.mg_none_of X G z1, PySem.W.mg_none_of X G z2, PySem.W.mg_none_of X G z3, PySem.W.mg_none_of X G z4, PySem.W.mg_none_of X G z5, PySem.W.mg_none_of X G z6, PySem.W.mg_none_of X G z7, PySem.W.mg_none_of X G z8, PySem.W.mg_none_of X G z9, PySem.W.mg_none_of X G z10, PySem.W.mg_none_of X G z11, PySem.W.mg_none_of X G z12⟩
  have GB : Gb K mg := ⟨⟨_, PySem.W.mg_of X G y1⟩, ⟨_, PySem.W.mg_of X G y2⟩, _, PySem.W.mg_of X G y3, fun H => .inr ⟨_, _, _, y4, rfl, rfl, by rw [y5]; exact (by decide : 2 ≤ sizeLine), by rw [y5]; exact .cons ⟨_, rfl⟩ (.cons ⟨_, rfl⟩ .nil)⟩⟩
  refine ⟨PySem.W.fnOf "law" "law" (defArgs sLaw) (defBody sLaw) (defScope sLaw) .none kV10 dc10 pm10 an10 cd10 ct10, fun s v => .of_eq rfl, fun base _ _ => ?_⟩
  have DN0 : Has l.prog w K mg base CX0 1 "is_name" ["value"] (spD K isNameD) := has_of (ok_name F1 B GB) m1 F1 b1
  have OC := ok_copy (P := l.prog) (w := w) (base := base) F2 B GB DN0
  have DC : Has l.prog w K mg base CX0 2 "is_copy" ["value"] (spD K isCopyD) := has_of OC m2 F2 b2
  have OS := ok_script (P := l.prog) (w := w) (base := base) F3 B GB DC
  have DS : Has l.prog w K mg base CX0 3 "is_script" ["value"] (spD K isScriptD) := has_of OS m3 F3 b3
  have DJ : Has l.prog w K mg base CX0 1 "_law_jar" ["cells", "k"] (spJar K) := has_of (ok_jar F4 B) m4 F4 b4
  have DD : Has l.prog w K mg base CX0 1 "_law_dip" ["jar", "many"] spDip := has_of (ok_dip F5) m5 F5 b5
  have DN : Has l.prog w K mg base CX0 2 "_law_names" ["jar", "many"] spNames := has_of (ok_names F6 B DD) m6 F6 b6
  have DP : Has l.prog w K mg base CX0 2 "_law_plan" ["jar", "names_here", "most"] (spPlan K) := has_of (ok_plan F7 B DD) m7 F7 b7
  have DI : Has l.prog w K mg base CX0 1 "_law_is_copy" ["thing"] (spD K isCopyD) := has_of (ok_isc F8 B) m8 F8 b8
  have DO : Has l.prog w K mg base CX0 2 "_law_odd" ["jar", "one"] (spOdd K) := has_of (ok_odd F9 B DD) m9 F9 b9
  exact ok_law F10 B DJ DD DN DP DO DI DC DS (hasK1 OC m2 F2 fun s u => .of_eq rfl) (hasK1 OS m3 F3 fun s u => .of_eq rfl)
end Cv
open PySem PySem.W PyProof.Rows
set_option maxHeartbeats 0 in
theorem PySem.Challenge.cw_copyover_k01_copies_and_scripts_judged_holds : PySem.Challenge.rw_copyover_k01_copies_and_scripts_judged.Holds := by
  w_on; o_law; k_head; (case hw => w_witness2)
  k_fill
  refine Cv.walk_gd (l := PySem.Challenge.rw_copyover_k01_copies_and_scripts_judged) (n := 63) (k := 4) (x := "script") (CX := fun _ => L2.CX0) (sp := fun w => Cv.spLaw _) rfl (by decide) rfl ⟨rfl, by decide, by decide⟩ (fun w h Y => PySem.W.kIn_of Y) ?F (fun _ _ a ns hl _ hS => ⟨a, ns, rfl, hS, hl, fun _ => rfl⟩) (fun _ _ _ _ _ h => h)
  case F =>
    intro w mg fa h KX G hmg
    refine' Cv.all_mk KX G hmg ?a1 ?l1 ?c1 ?k1 ?a2 ?l2 ?c2 ?k2 ?a3 ?l3 ?c3 ?k3 ?a4 ?l4 ?c4 ?k4 ?a5 ?l5 ?c5 ?k5 ?a6 ?l6 ?c6 ?k6 ?a7 ?l7 ?c7 ?k7 ?a8 ?l8 ?c8 ?k8 ?a9 ?l9 ?c9 ?k9 ?a10 ?l10 ?c10 ?k10 ?y1 ?y2 ?y3 ?y4 ?y5 ?z1 ?z2 ?z3 ?z4 ?z5 ?z6 ?z7 ?z8 ?z9 ?z10 ?z11 ?z12
    (case a1 => k_is); (case l1 => k_is); (case c1 => k_is); (case k1 => k_is); (case a2 => k_is); (case l2 => k_is); (case c2 => k_is); (case k2 => k_is); (case a3 => k_is); (case l3 => k_is); (case c3 => k_is); (case k3 => k_is); (case a4 => k_is); (case l4 => k_is); (case c4 => k_is); (case k4 => k_is); (case a5 => k_is); (case l5 => k_is); (case c5 => k_is); (case k5 => k_is); (case a6 => k_is); (case l6 => k_is); (case c6 => k_is); (case k6 => k_is); (case a7 => k_is); (case l7 => k_is); (case c7 => k_is); (case k7 => k_is); (case a8 => k_is); (case l8 => k_is); (case c8 => k_is); (case k8 => k_is); (case a9 => k_is); (case l9 => k_is); (case c9 => k_is); (case k9 => k_is); (case a10 => k_is); (case l10 => k_is); (case c10 => k_is); (case k10 => k_is); (case y1 => k_is); (case y2 => k_is); (case y3 => k_is); (case y4 => k_is); (case y5 => rfl); (case z1 => k_is); (case z2 => k_is); (case z3 => k_is); (case z4 => k_is); (case z5 => k_is); (case z6 => k_is); (case z7 => k_is); (case z8 => k_is); (case z9 => k_is); (case z10 => k_is); (case z11 => k_is); (case z12 => k_is)
