import PyProof.Rows.All
import Wide.All
import OpenK.AllK
import Wide.FinOn
import HandS.Base
import HandS.Call
import HandS.List
import HandS.Comp
import HandS.Ends
import HandS.Dict
import HandS.Iter
import HandS.Text
import HandS.Words
import HandS.EndBits
import PyProof.ReprRoads
import PyProof.NeKinds
import HandS.ForMost
import HandS.IsInst
import HandS.TupAny
import HandS.TupMul
import HandS.Style
import HandS.More
import HandS.Wide
import HandS.SetKeys
import HandS.Strs
import HandS.DictComp
import PyProof.Rows.SortShellAny
import HandS.Finally
import KE.GoesMore
import KE.GoesEnum
import HandS.Zip
import HandS.Walk
import HandS.SetTxt0
import HandS.Set
import HandS.SetFor
import PyProof.DictUpdate
import PyProof.DictTable
import PyProof.TupleOfGen
import KE.KDictSum
import PyProof.SliceList
import PyProof.StrOps2
import HandS.Codes
import HandS.WordsDict
import HandS.DeepEq
import HandS.ListItems
import PySem.Challenge.RW_copyover_k08_contents_run
set_option Elab.async false
set_option linter.all false
/-! part B0 -/
set_option maxRecDepth 100000
set_option maxHeartbeats 4000000
namespace Cv
open PySem PySem.Spec PyProof.Rows L2

/-! ### what may change -/
/-- all that stood stands, but what is at j -/
def Eff (j : Addr) (H H' : Hp) : Prop := ∀ b o, b ≠ j → H b = some o → H' b = some o
theorem Eff.refl (j : Addr) (H : Hp) : Eff j H H := fun _ _ _ e => e
theorem Eff.trans {j : Addr} {H H1 H2 : Hp} (a : Eff j H H1) (b : Eff j H1 H2) : Eff j H H2 := fun x o n e => b x o n (a x o n e)
theorem Eff.same {j : Addr} {H H' : Hp} (a : Same H H') : Eff j H H' := fun x o _ e => a x o e
theorem Eff.atj {j : Addr} {H H' : Hp} {o : HO} (a : Eff j H H') : Eff j H (upd H' j o) := fun x u n e => (upd_ne n).trans (a x u n e)
theorem Eff.new {j p : Addr} {H H' : Hp} {o : HO} (a : Eff j H H') (h : H p = none) : Eff j H (upd H' p o) := fun x u n e =>
  (upd_ne (ne_of_none e h)).trans (a x u n e)
theorem Eff.free {j p : Addr} {H H' : Hp} (a : Eff j H H') (n : p ≠ j) (h : H' p = none) : H p = none := by
  cases q : H p with
  | none => rfl
  | some o =>
    have z := a p o n q
    rw [h] at z
    cases z
theorem same_new {H : Hp} {p : Addr} {o : HO} (h : H p = none) : Same H (upd H p o) := fun b u e => (upd_ne (ne_of_none e h)).trans e
theorem same_up {H H' : Hp} {p : Addr} {o : HO} (a : Same H H') (h : H p = none) : Same H (upd H' p o) := fun b u e =>
  (upd_ne (ne_of_none e h)).trans (a b u e)
theorem same_free {H H' : Hp} {p : Addr} (a : Same H H') (h : H' p = none) : H p = none := a.free h

/-! ### data of any depth, that does not reach j -/
def keyD : Key → PyData
  | .inl i => .int i
  | .inr x => .str x
mutual
inductive Dx (K : PySem.W.Frag) (H : Hp) (j : Addr) : V → PyData → Prop
  | non : Dx K H j .non .none
  | bl (b : Bool) : Dx K H j (.bl b) (.bool b)
  | int (i : Int) : Dx K H j (.int i) (.int i)
  | str (x : Str) : Dx K H j (.str x) (.str x)
  | lst {a : Addr} {xs : List V} {ds : List PyData} : a ≠ j → SqL K H a xs → DxAll K H j xs ds → Dx K H j (.ref a) (.list ds)
  | tup {a : Addr} {xs : List V} {ds : List PyData} : a ≠ j → SqT K H a xs → DxAll K H j xs ds → Dx K H j (.ref a) (.tuple ds)
  | dic {a : Addr} {kvs : List (Key × V)} {es : List (PyData × PyData)} : a ≠ j → H a = some (.dK kvs) → DxKv K H j kvs es → Dx K H j (.ref a) (.dict es)
inductive DxAll (K : PySem.W.Frag) (H : Hp) (j : Addr) : List V → List PyData → Prop
  | nil : DxAll K H j [] []
  | cons {v : V} {vs : List V} {d : PyData} {ds : List PyData} : Dx K H j v d → DxAll K H j vs ds → DxAll K H j (v :: vs) (d :: ds)
inductive DxKv (K : PySem.W.Frag) (H : Hp) (j : Addr) : List (Key × V) → List (PyData × PyData) → Prop
  | nil : DxKv K H j [] []
  | cons {k : Key} {v : V} {r : List (Key × V)} {d : PyData} {es : List (PyData × PyData)} : Dx K H j v d → DxKv K H j r es → DxKv K H j ((k, v) :: r) ((keyD k, d) :: es)
end
theorem eff_rd {j a : Addr} {H H' : Hp} {u : HO} (e : Eff j H H') (n : a ≠ j) (h : Rd H a u) : Rd H' a u := by
  rcases h with h | ⟨o, h⟩
  · exact .inl (e a _ n h)
  · exact .inr ⟨o, e a _ n h⟩
theorem eff_l {K : PySem.W.Frag} {j a : Addr} {H H' : Hp} {xs : List V} (e : Eff j H H') (n : a ≠ j) (h : SqL K H a xs) : SqL K H' a xs := by
  rcases h with h | h
  · exact .inl (eff_rd e n h)
  · exact .inr h
theorem eff_t {K : PySem.W.Frag} {j a : Addr} {H H' : Hp} {xs : List V} (e : Eff j H H') (n : a ≠ j) (h : SqT K H a xs) : SqT K H' a xs := by
  rcases h with h | h
  · exact .inl (eff_rd e n h)
  · exact .inr h
section
variable {K : PySem.W.Frag} {H H' : Hp} {j : Addr}
mutual
theorem Dx.keep (e : Eff j H H') : ∀ (d : PyData) (v : V), Dx K H j v d → Dx K H' j v d
  | .none, _, h => by cases h; exact .non
  | .bool b, _, h => by cases h; exact .bl _
  | .int i, _, h => by cases h; exact .int _
  | .str x, _, h => by cases h; exact .str _
  | .list ds, _, h => by
    cases h with
    | lst n s a => exact .lst n (eff_l e n s) (DxAll.keep e ds _ a)
  | .tuple ds, _, h => by
    cases h with
    | tup n s a => exact .tup n (eff_t e n s) (DxAll.keep e ds _ a)
  | .dict es, _, h => by
    cases h with
    | dic n s a => exact .dic n (e _ _ n s) (DxKv.keep e es _ a)
theorem DxAll.keep (e : Eff j H H') : ∀ (ds : List PyData) (vs : List V), DxAll K H j vs ds → DxAll K H' j vs ds
  | [], _, h => by cases h; exact .nil
  | d :: ds, _, h => by
    cases h with
    | cons h1 h2 => exact .cons (Dx.keep e d _ h1) (DxAll.keep e ds _ h2)
theorem DxKv.keep (e : Eff j H H') : ∀ (es : List (PyData × PyData)) (kvs : List (Key × V)), DxKv K H j kvs es → DxKv K H' j kvs es
  | [], _, h => by cases h; exact .nil
  | (k, d) :: es, _, h => by
    cases h with
    | cons h1 h2 => exact .cons (Dx.keep e d _ h1) (DxKv.keep e es _ h2)
end
end

/-! ### what the library's own rules ask of such data -/
section
variable {X : Cx} {pins : List (Addr × Obj)} {σ : L2.St} {H : Hp} {s : Shared} {j : Addr}
theorem key_reads (h : Heap) {k : Key} {u : Value} (r : keyIs k u = true) : Reads h u (keyD k) [] := by
  rcases keyIs_shape r with ⟨i, t, rfl, rfl⟩ | ⟨x, t, rfl, rfl⟩
  · exact Reads.int i t
  · exact Reads.str x t
mutual
theorem Dx.reads (I : Inv X pins σ H s) : ∀ (d : PyData) (v : V) (u : Value), Dx X.K H j v d → RelV v u → ∃ as, Reads s.heap u d as
  | .none, _, _, h, r => by
    cases h; cases r
    exact ⟨_, Reads.none⟩
  | .bool b, _, _, h, r => by
    cases h; cases r
    exact ⟨_, Reads.bool b⟩
  | .int i, _, _, h, r => by
    cases h
    obtain ⟨t, rfl⟩ := r
    exact ⟨_, Reads.int i t⟩
  | .str x, _, _, h, r => by
    cases h
    obtain ⟨t, rfl⟩ := r
    exact ⟨_, Reads.str x t⟩
  | .list ds, _, _, h, r => by
    cases h with
    | lst _ hs ha =>
      cases r
      obtain ⟨its, rv, ⟨o, n, ho, hc, _, hd⟩, _⟩ := I.list hs
      obtain ⟨as, hr⟩ := DxAll.reads I ds _ its ha rv
      exact ⟨_, Reads.list ho hc hd hr⟩
  | .tuple ds, _, _, h, r => by
    cases h with
    | tup _ hs ha =>
      cases r
      obtain ⟨its, rv, ⟨o, ho, hc, n, hd⟩, _⟩ := I.tuple hs
      obtain ⟨as, hr⟩ := DxAll.reads I ds _ its ha rv
      exact ⟨_, Reads.tuple ho hc hd hr⟩
  | .dict es, _, _, h, r => by
    cases h with
    | dic _ hs ha =>
      cases r
      obtain ⟨_, _, vs, kv, o, en, ep, ho, hx, hd, _, hp, _⟩ := dk_of I.hok hs
      obtain ⟨as, bs, h1, h2⟩ := DxKv.reads I es _ vs _ ha kv hp
      exact ⟨_, Reads.dict ho hx.1 hd h1 h2⟩
theorem DxAll.reads (I : Inv X pins σ H s) : ∀ (ds : List PyData) (vs : List V) (us : List Value), DxAll X.K H j vs ds → Vals vs us → ∃ as, ReadsAll s.heap us ds as
  | [], _, _, h, r => by
    cases h; cases r
    exact ⟨_, ReadsAll.nil⟩
  | d :: ds, _, _, h, r => by
    cases h with
    | cons h1 h2 =>
      cases r with
      | cons r1 r2 =>
        obtain ⟨as, q1⟩ := Dx.reads I d _ _ h1 r1
        obtain ⟨bs, q2⟩ := DxAll.reads I ds _ _ h2 r2
        exact ⟨_, ReadsAll.cons q1 q2⟩
theorem DxKv.reads (I : Inv X pins σ H s) : ∀ (es : List (PyData × PyData)) (kvs : List (Key × V)) (vs : List (Key × Value)) (en : List DictEntry), DxKv X.K H j kvs es → KV kvs vs → Pairs (mixKind X.prog X.w) en vs →
    ∃ as bs, ReadsAll s.heap (en.map (·.key)) (es.map (·.1)) as ∧ ReadsAll s.heap (en.map (·.val)) (es.map (·.2)) bs
  | [], _, _, _, h, r, p => by
    cases h; cases r; cases p
    exact ⟨_, _, ReadsAll.nil, ReadsAll.nil⟩
  | (k, d) :: es, _, _, _, h, r, p => by
    cases h with
    | cons h1 h2 =>
      cases r with
      | cons r1 r2 =>
        cases p with
        | cons p1 p2 p3 =>
          obtain ⟨e1, r1⟩ := r1
          rw [← p2] at r1
          obtain ⟨as, q1⟩ := Dx.reads I d _ _ h1 r1
          obtain ⟨a2, b2, q2, q3⟩ := DxKv.reads I es _ _ _ h2 r2 p3
          have kr := key_reads s.heap (k := _) p1
          rw [← e1] at kr
          exact ⟨_, _, ReadsAll.cons kr q2, ReadsAll.cons q1 q3⟩
end
end

/-! ### its repr -/
section
variable {X : Cx} {pins : List (Addr × Obj)} {σ : L2.St} {H : Hp} {s : Shared} {j : Addr}
theorem kd_split {k : PyData × PyData} {kvs : List (PyData × PyData)} (h : PyData.showableKv (k :: kvs) = true) : k.1.showable = true ∧ k.2.showable = true ∧ PyData.showableKv kvs = true := by
  have h2 : (k.1.showable && k.2.showable && PyData.showableKv kvs) = true := by
    have h3 := h
    simp only [PyData.showableKv] at h3
    exact h3
  simp only [Bool.and_eq_true] at h2
  exact ⟨h2.1.1, h2.1.2, h2.2⟩
theorem key_repr {prog : Program} {w : World} (h : Heap) {k : Key} {u : Value} (r : keyIs k u = true) (hs : (keyD k).showable = true) (hz : (keyD k).shown.length ≤ sizeLine) (bs : List Addr) (n : Nat) : ReprK prog w bs h n u (keyD k).shown := by
  rcases keyIs_shape r with ⟨i, t, rfl, rfl⟩ | ⟨x, t, rfl, rfl⟩
  · have e : (keyD (.inl i)).shown = toString i := by simp only [keyD, PyData.shown]
    rw [e]
    exact .of_is (ReprIs.int t (by simpa [keyD, PyData.showable] using hs)) _ _ _
  · have e : (keyD (.inr x)).shown = reprText x := by simp only [keyD, PyData.shown]
    rw [e] at hz ⊢
    exact .of_is (ReprIs.str x t hz) _ _ _
theorem ent_more {prog : Program} {w : World} {h₀ : Heap} {as as' : List Addr} {d d' : Nat} (hsub : ∀ b ∈ as, b ∈ as') (hd : d ≤ d') : ∀ {l : List DictEntry} {ts : List Str}, ReprEntriesK prog w as h₀ d l ts → ReprEntriesK prog w as' h₀ d' l ts
  | _, _, .nil => .nil
  | _, _, .cons hk hv hl => .cons ((hk.more hsub).level_le hd) ((hv.more hsub).level_le hd) (ent_more hsub hd hl)
mutual
theorem Dx.repr {prog : Program} {w : World} (I : Inv X pins σ H s) : ∀ (d : PyData) (v : V) (u : Value), Dx X.K H j v d → RelV v u → d.showable = true → d.shown.length ≤ sizeLine →
    ∃ bs, ReadAtMost s.heap d.depth bs ∧ ReprK prog w bs s.heap d.depth u d.shown
  | .none, _, _, h, r, _, _ => by
    cases h; cases r
    exact ⟨[], (fun _ q => nomatch q), by simp only [PyData.shown]; exact .of_is ReprIs.none _ _ _⟩
  | .bool b, _, _, h, r, _, _ => by
    cases h; cases r
    exact ⟨[], (fun _ q => nomatch q), by simp only [PyData.shown]; exact .of_is (ReprIs.bool b) _ _ _⟩
  | .int i, _, _, h, r, hs, _ => by
    cases h
    obtain ⟨t, rfl⟩ := r
    exact ⟨[], (fun _ q => nomatch q), by simp only [PyData.shown]; exact .of_is (ReprIs.int t (by simpa [PyData.showable] using hs)) _ _ _⟩
  | .str x, _, _, h, r, _, hz => by
    cases h
    obtain ⟨t, rfl⟩ := r
    exact ⟨[], (fun _ q => nomatch q), by simp only [PyData.shown]; exact .of_is (ReprIs.str x t (by simpa only [PyData.shown] using hz)) _ _ _⟩
  | .list ds, v, u, h, r, hs, hz => by
    obtain ⟨as0, r0⟩ := Dx.reads I _ v u h r
    cases h with
    | lst _ hq ha =>
      cases r
      have hz' : (listText (PyData.shownAll ds)).length ≤ sizeLine := by simpa only [PyData.shown] using hz
      obtain ⟨its, rv, ⟨o, n, ho, hc, _, hd⟩, _⟩ := I.list hq
      obtain ⟨bs, hb, hk⟩ := DxAll.repr (prog := prog) (w := w) I ds _ its ha rv (by simpa [PyData.showable] using hs) (fun t ht => Nat.le_trans (listText_mem_le ht) hz')
      have hna := not_mem_of_deeper r0 (show PyData.depthAll ds < (PyData.list ds).depth by simp only [PyData.depth]; omega) hb
      refine ⟨_ :: bs, ReadAtMost.cons r0 (by simp only [PyData.depth]; omega) hb, ?_⟩
      simp only [PyData.depth, PyData.shown]
      cases its with
      | nil =>
        cases rv
        cases ha
        simp only [PyData.shownAll, listText_nil]
        exact ReprK.listEmpty ho hc hd
      | cons x l => exact ReprK.list ho hc hd hna (by simpa using hk.length_eq) (fun i y e => hk.item i y (by simpa using e))
  | .tuple ds, v, u, h, r, hs, hz => by
    obtain ⟨as0, r0⟩ := Dx.reads I _ v u h r
    cases h with
    | tup _ hq ha =>
      cases r
      have hz' : (tupleText (PyData.shownAll ds)).length ≤ sizeLine := by simpa only [PyData.shown] using hz
      obtain ⟨its, rv, ⟨o, ho, hc, n, hd⟩, _⟩ := I.tuple hq
      obtain ⟨bs, hb, hk⟩ := DxAll.repr (prog := prog) (w := w) I ds _ its ha rv (by simpa [PyData.showable] using hs) (fun t ht => Nat.le_trans (tupleText_mem_le ht) hz')
      have hna := not_mem_of_deeper r0 (show PyData.depthAll ds < (PyData.tuple ds).depth by simp only [PyData.depth]; omega) hb
      refine ⟨_ :: bs, ReadAtMost.cons r0 (by simp only [PyData.depth]; omega) hb, ?_⟩
      simp only [PyData.depth, PyData.shown]
      exact ReprK.tuple ho hc hd hna hk
  | .dict es, v, u, h, r, hs, hz => by
    obtain ⟨as0, r0⟩ := Dx.reads I _ v u h r
    cases h with
    | dic _ hq ha =>
      cases r
      have hz' : (dictText (PyData.shownKv es)).length ≤ sizeLine := by simpa only [PyData.shown] using hz
      obtain ⟨_, hsys, vs, kv, o, en, ep, ho, hx, hd, _, hp, _⟩ := dk_of I.hok hq
      obtain ⟨bs, hb, hk⟩ := DxKv.repr (prog := prog) (w := w) I es _ vs _ ha kv hp (by simpa [PyData.showable] using hs) (fun t ht => Nat.le_trans (dictText_mem_le ht) hz')
      have hna := not_mem_of_deeper r0 (show PyData.depthKv es < (PyData.dict es).depth by simp only [PyData.depth]; omega) hb
      refine ⟨_ :: bs, ReadAtMost.cons r0 (by simp only [PyData.depth]; omega) hb, ?_⟩
      simp only [PyData.depth, PyData.shown]
      exact ReprK.dict ho hx.1 hd hsys hna hk
theorem DxAll.repr {prog : Program} {w : World} (I : Inv X pins σ H s) : ∀ (ds : List PyData) (vs : List V) (us : List Value), DxAll X.K H j vs ds → Vals vs us → PyData.showableAll ds = true → (∀ t ∈ PyData.shownAll ds, t.length ≤ sizeLine) →
    ∃ bs, ReadAtMost s.heap (PyData.depthAll ds) bs ∧ ReprAllK prog w bs s.heap (PyData.depthAll ds) us (PyData.shownAll ds)
  | [], _, _, h, r, _, _ => by
    cases h; cases r
    exact ⟨[], (fun _ q => nomatch q), by simp only [PyData.shownAll]; exact .nil⟩
  | d :: ds, _, _, h, r, hs, hz => by
    cases h with
    | cons h1 h2 =>
      cases r with
      | cons r1 r2 =>
        have hs' : d.showable = true ∧ PyData.showableAll ds = true := by simpa [PyData.showableAll] using hs
        obtain ⟨b1, hb1, k1⟩ := Dx.repr (prog := prog) (w := w) I d _ _ h1 r1 hs'.1 (hz _ (by simp only [PyData.shownAll]; exact List.mem_cons_self ..))
        obtain ⟨b2, hb2, k2⟩ := DxAll.repr (prog := prog) (w := w) I ds _ _ h2 r2 hs'.2 (fun t ht => hz t (by simp only [PyData.shownAll]; exact List.mem_cons_of_mem _ ht))
        refine ⟨b1 ++ b2, ?_, ?_⟩
        · simp only [PyData.depthAll]
          exact (hb1.mono (Nat.le_max_left _ _)).append (hb2.mono (Nat.le_max_right _ _))
        · simp only [PyData.depthAll, PyData.shownAll]
          exact .cons ((k1.more fun b hb => List.mem_append_left _ hb).level_le (Nat.le_max_left _ _)) (k2.more_le (fun b hb => List.mem_append_right _ hb) (Nat.le_max_right _ _))
theorem DxKv.repr {prog : Program} {w : World} (I : Inv X pins σ H s) : ∀ (es : List (PyData × PyData)) (kvs : List (Key × V)) (vs : List (Key × Value)) (en : List DictEntry), DxKv X.K H j kvs es → KV kvs vs → Pairs (mixKind X.prog X.w) en vs →
    PyData.showableKv es = true → (∀ t ∈ PyData.shownKv es, t.length ≤ sizeLine) → ∃ bs, ReadAtMost s.heap (PyData.depthKv es) bs ∧ ReprEntriesK prog w bs s.heap (PyData.depthKv es) en (PyData.shownKv es)
  | [], _, _, _, h, r, p, _, _ => by
    cases h; cases r; cases p
    exact ⟨[], (fun _ q => nomatch q), by simp only [PyData.shownKv]; exact .nil⟩
  | (k, d) :: es, _, _, _, h, r, p, hs, hz => by
    cases h with
    | cons h1 h2 =>
      cases r with
      | cons r1 r2 =>
        cases p with
        | cons p1 p2 p3 =>
          obtain ⟨e1, r1⟩ := r1
          rw [← p2] at r1
          obtain ⟨s1, s2, s3⟩ := kd_split hs
          have z0 := hz _ (by simp only [PyData.shownKv]; exact List.mem_cons_self ..)
          have z1 := Nat.le_trans (Nat.le_trans (Nat.le_add_right _ _) (Nat.le_of_eq (strLen_append _ ": ").symm)) (Nat.le_trans (Nat.le_trans (Nat.le_add_right _ _) (Nat.le_of_eq (strLen_append _ d.shown).symm)) z0)
          have z2 : d.shown.length ≤ sizeLine := Nat.le_trans (by rw [strLen_append, strLen_append]; omega) z0
          obtain ⟨b1, hb1, k1⟩ := Dx.repr (prog := prog) (w := w) I d _ _ h1 r1 s2 z2
          obtain ⟨b2, hb2, k2⟩ := DxKv.repr (prog := prog) (w := w) I es _ _ _ h2 r2 p3 s3 (fun t ht => hz t (by simp only [PyData.shownKv]; exact List.mem_cons_of_mem _ ht))
          refine ⟨b1 ++ b2, ?_, ?_⟩
          · simp only [PyData.depthKv]
            exact (hb1.mono (by omega)).append (hb2.mono (by omega))
          · simp only [PyData.depthKv, PyData.shownKv]
            have p1' := p1
            rw [mixKind_is, ← e1] at p1'
            refine .cons (key_repr s.heap p1' s1 z1 _ _) ((k1.more fun b hb => List.mem_append_left _ hb).level_le (by omega)) ?_
            exact ent_more (fun b hb => List.mem_append_right _ hb) (by omega) k2
end
end

/-- repr(x), where no repr is running -/
def rRepr (K : PySem.W.Frag) : List V → Hp → VK → Prop := fun xs H Q => ∃ v d j, xs = [v] ∧ Dx K H j v d ∧ d.showable = true ∧ d.shown.length ≤ sizeLine ∧ d.depth ≤ 60 ∧ Q (.str d.shown) H
theorem call_reprX {X : Cx} (hu : X.A.units + 64 < cLine) (hg : X.A.guards = some []) : CallR X (.builtin "repr") (rRepr X.K) := by
  intro pins s σ H xs us Q I r h
  obtain ⟨v, d, j, rfl, hx, hs, hz, hd, q⟩ := h
  obtain ⟨u, rfl, r1⟩ := vals1 r
  obtain ⟨as0, r0⟩ := Dx.reads I d v u hx r1
  have fin : ∀ h' tk, (∀ b o, s.heap.get? b = some o → h'.get? b = some o) → ∀ uu, EP X pins σ Q (.str d.shown uu) { s with heap := h', toks := tk } := fun h' tk k uu =>
    ⟨.str d.shown, H, I.kept k, ⟨_, rfl⟩, q⟩
  cases hx with
  | non =>
    cases r1
    refine PySem.P.repr_of_none ?_
    have z := fin s.heap (s.toks + 1) (fun _ _ e => e) s.toks
    simpa only [PyData.shown] using z
  | bl b =>
    cases r1
    refine PySem.P.repr_of_bool ?_
    have z := fin s.heap (s.toks + 1) (fun _ _ e => e) s.toks
    simpa only [PyData.shown] using z
  | int i =>
    obtain ⟨t, rfl⟩ := r1
    refine PySem.P.repr_of_int (by simpa [PyData.showable] using hs) ?_
    have z := fin s.heap (s.toks + 1) (fun _ _ e => e) s.toks
    simpa only [PyData.shown] using z
  | str x =>
    obtain ⟨t, rfl⟩ := r1
    have z := fin s.heap (s.toks + 1) (fun _ _ e => e) s.toks
    simp only [PyData.shown] at z hz
    exact PySem.P.repr_of_str z hz
  | @lst a xs ds _ hq ha =>
    cases r1
    have hz' : (listText (PyData.shownAll ds)).length ≤ sizeLine := by simpa only [PyData.shown] using hz
    obtain ⟨its, rv, ⟨o, n, ho, hc, _, hdd⟩, _⟩ := I.list hq
    obtain ⟨bs, hb, hk⟩ := DxAll.repr (prog := X.prog) (w := X.w) I ds _ its ha rv (by simpa [PyData.showable] using hs) (fun t ht => Nat.le_trans (listText_mem_le ht) hz')
    have hna := not_mem_of_deeper r0 (show PyData.depthAll ds < (PyData.list ds).depth by simp only [PyData.depth]; omega) hb
    simp only [PyData.depth] at hd
    simp only [PyData.shown] at fin
    refine call_repr_slot (T := "list") (by omega) ⟨o, ho, hc⟩ F.slot_list_repr.toG ?_
    cases its with
    | nil =>
      cases rv
      cases ha
      simp only [PyData.shownAll, listText_nil] at fin
      exact call_list_repr_empty ⟨o, ho, hc⟩ ho hdd ⟨_, _, rfl, fin s.heap _ (fun _ _ e => e) _⟩
    | cons x l =>
      exact call_list_reprK (h₀ := s.heap) ho hc hdd hna (by simpa using hk.length_eq) (fun i y e => hk.item i y (by simpa using e)) hg (fun b _ => Clear.nil b) (by show X.A.units + 1 + _ < _; omega) (fun _ _ e => e) (fun h' u tk k => ⟨_, _, rfl, fin h' tk k u⟩) hz'
  | @tup a xs ds _ hq ha =>
    cases r1
    have hz' : (tupleText (PyData.shownAll ds)).length ≤ sizeLine := by simpa only [PyData.shown] using hz
    obtain ⟨its, rv, ⟨o, ho, hc, n, hdd⟩, _⟩ := I.tuple hq
    obtain ⟨bs, hb, hk⟩ := DxAll.repr (prog := X.prog) (w := X.w) I ds _ its ha rv (by simpa [PyData.showable] using hs) (fun t ht => Nat.le_trans (tupleText_mem_le ht) hz')
    have hna := not_mem_of_deeper r0 (show PyData.depthAll ds < (PyData.tuple ds).depth by simp only [PyData.depth]; omega) hb
    simp only [PyData.depth] at hd
    simp only [PyData.shown] at fin
    refine call_repr_slot (T := "tuple") (by omega) ⟨o, ho, hc⟩ F.slot_tuple_repr ?_
    exact call_tuple_reprK (h₀ := s.heap) ho hc hdd hna hk hg (fun b _ => Clear.nil b) (by show X.A.units + 1 + _ < _; omega) (fun _ _ e => e) (fun h' u tk k => ⟨_, _, rfl, fin h' tk k u⟩) hz'
  | @dic a kvs es _ hq ha =>
    cases r1
    have hz' : (dictText (PyData.shownKv es)).length ≤ sizeLine := by simpa only [PyData.shown] using hz
    obtain ⟨_, hsys, vs, kv, o, en, ep, ho, hx, hdd, _, hp, _⟩ := dk_of I.hok hq
    obtain ⟨bs, hb, hk⟩ := DxKv.repr (prog := X.prog) (w := X.w) I es _ vs _ ha kv hp (by simpa [PyData.showable] using hs) (fun t ht => Nat.le_trans (dictText_mem_le ht) hz')
    have hna := not_mem_of_deeper r0 (show PyData.depthKv es < (PyData.dict es).depth by simp only [PyData.depth]; omega) hb
    simp only [PyData.depth] at hd
    simp only [PyData.shown] at fin
    refine call_repr_slot (T := "dict") (by omega) ⟨o, ho, hx.1⟩ F.slot_dict_repr ?_
    exact call_dict_reprK (h₀ := s.heap) ho hx.1 hdd hsys hna hk hg (fun b _ => Clear.nil b) (by show X.A.units + 1 + _ < _; omega) (fun _ _ e => e) (fun h' u tk k => ⟨_, _, rfl, fin h' tk k u⟩) hz'
end Cv

/-! part B1 -/
set_option maxRecDepth 100000
set_option maxHeartbeats 4000000
namespace Cv
open PySem PySem.Spec PyProof.Rows L2
open PySem.W (Frag)
/-! ### defs whose bodies may call repr: their callers run no repr -/
structure FnG (P : Program) (w : World) (K : Frag) (mg : Str → Option Value) (base : Heap) (CX : CXT) (k : Nat) (f : Addr) (fd : FuncData) (ps : List Str) (sp : Sp) : Prop where
  len : ∀ vs H Q E, sp vs H Q E → vs.length = ps.length
  go : ∀ (A : Around) (outer : List Env) (s : Shared) (H : Hp) (args : Args) (us : List Value) (vs : List V) (Q : VK) (E : XK),
    A.guards = some [] → Room k A → Env0 P w K mg base A outer s H → BindsTo s fd args (ps.zip us) →
    Vals vs us → sp vs H Q E → codeAny (model P w) A (.call (.ref f) args) (CR CX outer P w H s Q E) s
section
variable {P : Program} {w : World} {K : Frag} {mg : Str → Option Value} {base : Heap} {CX : CXT} {k : Nat} {f : Addr} {fd : FuncData} {ps : List Str} {sp : Sp}
theorem FnG.of (F : FnOk P w K mg base CX k f fd ps sp) : FnG P w K mg base CX k f fd ps sp :=
  ⟨F.len, fun A outer s H args us vs Q E _ hr e0 hb r h => F.run A outer s H args us vs Q E hr e0 hb r h⟩
/-- the rule for a def, where no repr runs around it -/
theorem fn_gd {name qual : Str} {params : Arguments} {body : List Stmt} {scope : Scope} {dV kV doc pm cdv ct oc : Value} {an od : Option Addr} {osl : Array (Option Value)} {N : List Str}
    (lk : K.lookup f = some ⟨oc, od, .func (PySem.W.fnOf name qual params body scope dV kV doc pm an cdv ct), osl⟩) (hcd : PySem.W.codeIn K cdv qual = true)
    (S : FnScope N ps scope) (hlen : ∀ vs H Q E, sp vs H Q E → vs.length = ps.length)
    (hbody : ∀ (A : Around) (outer : List Env) (s : Shared) (H : Hp) (vs : List V) (Q : VK) (E : XK),
      A.guards = some [] → Room k (A.deeper (envOfC qual scope s.heap.objs.size f cdv)) → sp vs H Q E →
      ∃ t, PSs (cxOf CX P w K mg base N qual scope f cdv A outer s H E) body t ∧ t { nx := fun _ H' => Q .non H', rt := Q } (start N vs) H) :
    FnG P w K mg base CX (k + 1) f (PySem.W.fnOf name qual params body scope dV kV doc pm an cdv ct) ps sp := by
  refine ⟨hlen, fun A outer s H args us vs Q E gA room e0 hb r hsp => ?_⟩
  have vl := hlen _ _ _ _ hsp
  have kx : K.In s.heap := e0.mod.kin.keeps (fun b o e => And.left (e0.bs b o e))
  have noLim : s.heap.NoLimit := e0.mod.nolimit.keeps (fun b o e => And.left (e0.bs b o e))
  have kinds : ∀ y ∈ ps.zip us, scope.names.lookup y.1 = some .local ∨
      (scope.names.lookup y.1 = some .cell ∧ ((cellsFrom (s.heap.objs.size + 1) scope.names []).lookup y.1).isSome = true) := by
    rintro ⟨nm, v⟩ hy
    cases S.par nm (List.of_mem_zip hy).1 with
    | inl z => exact .inl z
    | inr z => exact .inr ⟨z, PySem.W.cellsFrom_some _ _ _ (.inl z)⟩
  refine codeAny_call_function room.depth (kx _ _ lk) rfl S.co S.gen rfl (PySem.W.codeRec_of kx hcd) (hb _ _ _ _ ?_)
  refine wpAny_newFunctionEnv_cells S.kind kinds (fun env he t1 icc => ?_)
  subst he
  refine ⟨noLim.keeps icc.toInCall.keep, codeAny_func ?_⟩
  obtain ⟨t, ht, tq⟩ := hbody A outer s H vs Q E gA (room.deeper _) hsp
  have J0 := inv_start (CX := CX) (P := P) (mg := mg) (base := base) (E := E) S room.hd e0 vl r icc
  refine wpAny_mono (ht.run [] t1 (start N vs) H _ J0 tq) (fun fl s' hs => ?_) (fun e s' hs => hs)
  cases fl with
  | ret u =>
    obtain ⟨v, σ', H', J, rv, q⟩ := hs
    exact ⟨v, H', J.os, J.bare, J.base, J.hok, rv, q⟩
  | next =>
    obtain ⟨σ', H', J, q⟩ := hs
    exact ⟨V.non, H', J.os, J.bare, J.base, J.hok, rfl, q⟩
  | brk => obtain ⟨_, _, _, z⟩ := hs; exact False.elim z
  | cont => obtain ⟨_, _, _, z⟩ := hs; exact False.elim z
end
section
variable {P : Program} {w : World} {K : Frag} {mg : Str → Option Value} {base : Heap} {ps : List Str} {k : Nat} {sp : Sp}
theorem fun_gd {x qual : Str} {st : Stmt} {f : Addr} {fd : FuncData} {N : List Str} (F : Fun K x qual st f fd) (S : FnScope N ps (defScope st)) (hlen : ∀ vs H Q E, sp vs H Q E → vs.length = ps.length)
    (hbody : ∀ (cdv : Value) (A : Around) (outer : List Env) (s : Shared) (H : Hp) (vs : List V) (Q : VK) (E : XK), A.guards = some [] →
      Room k (A.deeper (envOfC qual (defScope st) s.heap.objs.size f cdv)) → sp vs H Q E →
      ∃ t, PSs (cxOf CX0 P w K mg base N qual (defScope st) f cdv A outer s H E).nox (defBody st) t ∧ t { nx := fun _ H' => Q .non H', rt := Q } (start N vs) H) :
    FnG P w K mg base CX0 (k + 1) f fd ps sp := by
  obtain ⟨oc, od, kV, doc, pm, an, cdv, ct, osl, rfl, lk, hc⟩ := F.ex
  refine fn_gd lk hc S hlen (fun A outer s H vs Q E gA room hsp => ?_)
  obtain ⟨t, ht, q⟩ := hbody cdv A outer s H vs Q E gA room hsp
  exact ⟨t, ht.nox, q⟩
end

/-! ### a def by name: its promise, where it stands, how it binds -/
/-- the module's name x holds a def that keeps sp -/
structure Has (P : Program) (w : World) (K : Frag) (mg : Str → Option Value) (base : Heap) (CX : CXT) (k : Nat) (x : Str) (ps : List Str) (sp : Sp) : Prop where
  ex : ∃ f fd, FnOk P w K mg base CX k f fd ps sp ∧ mg x = some (.ref f) ∧ PySem.W.keepIn K (.ref f) = true ∧ Binds K fd ps []
/-- the same, for a caller within which no repr runs -/
structure HasG (P : Program) (w : World) (K : Frag) (mg : Str → Option Value) (base : Heap) (CX : CXT) (k : Nat) (x : Str) (ps : List Str) (sp : Sp) : Prop where
  ex : ∃ f fd, FnG P w K mg base CX k f fd ps sp ∧ mg x = some (.ref f) ∧ PySem.W.keepIn K (.ref f) = true ∧ Binds K fd ps []
/-- .. called by keywords alone: their values zs come to the parameters' order by g -/
structure HasK (P : Program) (w : World) (K : Frag) (mg : Str → Option Value) (base : Heap) (CX : CXT) (k : Nat) (x : Str) (ps ks : List Str) (g : {α : Type} → List α → List α) (sp : Sp) : Prop where
  ex : ∃ f fd, FnOk P w K mg base CX k f fd ps sp ∧ mg x = some (.ref f) ∧ PySem.W.keepIn K (.ref f) = true ∧
    (∀ (s : Shared) (ws : List Value), ws.length = ks.length → BindsTo s fd ⟨[], ks.zip ws⟩ (ps.zip (g ws))) ∧
    (∀ {zs : List V} {ws : List Value}, Vals zs ws → zs.length = ks.length → Vals (g zs) (g ws))
section
variable {X : Cx} {CX : CXT} {k j : Nat} {ps ks : List Str} {sp : Sp} {E : XK} {x : Str} {p pos : Pos} {e : Expr} {es : List Expr} {kws : List Keyword} {t : TA}
def tCl (sp : Sp) (E : XK) (t : TA) : TE := fun σ H Q => t σ H fun vs H1 => sp vs H1 Q E
theorem pe_has (D : Has X.prog X.w X.K X.mg X.base CX k x ps sp) (hr : Room j X.A) (hx : Passes CX X E) (ha : PA X (e :: es) t) (hkj : k ≤ j := by decide) (hg : Gl X x := by rfl) (hdb : (x == ("__debug__" : Str)) = false := by decide)
    (he : starEach (e :: es) X.env = (false, eval e X.env) :: starEach es X.env := by rfl) (hpl : (backTo pos (starEach es X.env)).any (·.1) = false := by rfl) : PE X (.Call (.Name x p) (e :: es) [] pos) (tCl sp E t) := by
  obtain ⟨f, fd, F, hm, hk, hb⟩ := D.ex
  refine ⟨fun pins s σ H Q I h => ?_⟩
  refine (pe_call F (hr.mono hkj) hg hm hk hb .nil hx ha hdb he hpl).run pins s σ H Q I ?_
  show t σ H fun vs H1 => sp (vs ++ []) H1 Q E
  have h' : t σ H fun vs H1 => sp vs H1 Q E := h
  have e2 : (fun (vs : List V) (H1 : Hp) => sp (vs ++ []) H1 Q E) = fun vs H1 => sp vs H1 Q E := by
    funext vs H1
    rw [List.append_nil]
  rw [e2]
  exact h'
/-- the callee runs -/
theorem run_gd {f : Addr} {fd : FuncData} {pins : List (Addr × Obj)} {σ : L2.St} {H : Hp} {s : Shared} {Q : VK} {us : List Value} {vs : List V} (F : FnG X.prog X.w X.K X.mg X.base CX k f fd ps sp) (hgd : X.A.guards = some []) (hr : Room k X.A) (hb : Binds X.K fd ps []) (hx : Passes CX X E)
    (I : Inv X pins σ H s) (r : Vals vs us) (h : sp vs H Q E) : wpAny (model X.prog X.w) X.A (call (.ref f) us) (EP X pins σ Q) X.xe s := by
  have hl : (us ++ ([] : List Value)).length = ps.length := by
    rw [List.append_nil, ← r.length]
    exact F.len _ _ _ _ h
  have hb2 := hb s us I.kIn hl
  rw [List.append_nil] at hb2
  refine wpAny_call (codeAny_mono (F.go X.A X.stack s H ⟨us, []⟩ us vs Q E hgd hr I.env0 hb2 r h) (fun res s' hq => ?_))
  cases res with
  | error e => exact hx pins σ H s e s' I hq
  | ok fl => cases fl <;> first | exact I.after hq | exact False.elim hq
theorem pe_hasG (D : HasG X.prog X.w X.K X.mg X.base CX k x ps sp) (hgd : X.A.guards = some []) (hr : Room j X.A) (hx : Passes CX X E) (ha : PA X (e :: es) t) (hkj : k ≤ j := by decide) (hg : Gl X x := by rfl) (hdb : (x == ("__debug__" : Str)) = false := by decide)
    (he : starEach (e :: es) X.env = (false, eval e X.env) :: starEach es X.env := by rfl) (hpl : (backTo pos (starEach es X.env)).any (·.1) = false := by rfl) : PE X (.Call (.Name x p) (e :: es) [] pos) (tCl sp E t) := by
  obtain ⟨f, fd, F, hm, hk, hb⟩ := D.ex
  refine ⟨fun pins s σ H Q I h => ?_⟩
  refine wpAny_Call_Name_kw (ld_glob I hg hm ?_ hdb)
  refine PySem.W.callWith_K (h₀ := X.base) I.ok.mod.kin hk (thn (ha.run pos pins s σ H _ I h) fun us s1 hh => ?_) he hpl
  obtain ⟨vs, H1, I1, r, q⟩ := hh
  exact ⟨I1.kIn, run_gd F hgd (hr.mono hkj) hb hx I1 r q⟩
/-- f(k = v, ..) -/
theorem pe_hasK {g : {α : Type} → List α → List α} (D : HasK X.prog X.w X.K X.mg X.base CX k x ps ks g sp) (hr : Room j X.A) (hx : Passes CX X E) (hkw : PK X kws t) (hkj : k ≤ j := by decide)
    (hall : (backToKw pos (keywordEach kws X.env)).all (·.1.isSome) = true := by rfl) (hks : (backToKw pos (keywordEach kws X.env)).filterMap (·.1) = ks := by rfl) (hn : kws.length = ks.length := by rfl)
    (hg : Gl X x := by rfl) (hdb : (x == ("__debug__" : Str)) = false := by decide)
    (hpl : ((backTo pos (starEach [] X.env)).any (·.1) || (backToKw pos (keywordEach kws X.env)).any (·.1.isNone)) = false := by rfl) :
    PE X (.Call (.Name x p) [] kws pos) (fun σ H Q => t σ H fun zs H1 => zs.length = ks.length ∧ sp (g zs) H1 Q E) := by
  obtain ⟨f, fd, F, hm, hk, hb, hrel⟩ := D.ex
  refine ⟨fun pins s σ H Q I h => ?_⟩
  refine wpAny_Call_Name_kw (ld_glob I hg hm ?_ hdb)
  refine PySem.W.callWith_KW0 (h₀ := X.base) I.ok.mod.kin hk hall (thn (hkw.run pos pins s σ H _ I h) fun ws s1 hh => ?_) hpl
  obtain ⟨zs, H1, I1, rz, hz, q⟩ := hh
  refine ⟨I1.kIn, ?_⟩
  rw [hks]
  have hw : ws.length = ks.length := by rw [← rz.length]; exact hz
  refine wpAny_call (codeAny_mono (F.run X.A X.stack s1 H1 ⟨[], ks.zip ws⟩ (g ws) (g zs) Q E (hr.mono hkj) I1.env0 (hb s1 ws hw) (hrel rz hz) q) (fun res s' hq => ?_))
  cases res with
  | error e => exact hx pins σ H1 s1 e s' I1 hq
  | ok fl => cases fl <;> first | exact I1.after hq | exact False.elim hq
end

/-! ### a few more rules -/
section
variable {X : Cx}
/-- ** of ints of any size -/
theorem op_powB : OpR X (binaryOp .Pow) (rI (fun i j => 0 ≤ j ∧ (Builtin.Int.intBits i : Int) * j ≤ 2 ^ 27) fun i j => .int (i ^ j.toNat)) := opI fun _ _ _ _ _ _ _ hc q =>
  PyProof.Rows.pow_int hc.1 hc.2 q
theorem bits_of {i : Int} {n : Nat} (h : i.natAbs < 2 ^ n) : Builtin.Int.intBits i ≤ n := by
  unfold Builtin.Int.intBits
  split
  · omega
  · rename_i h0
    have h1 : i.natAbs ≠ 0 := fun z => h0 (by simpa using z)
    have h2 := (Nat.log2_lt h1).mpr h
    omega
/-- xs != [] -/
def rNeL (K : Frag) : R2 := fun x y H Q => ∃ a b xs, x = .ref a ∧ y = .ref b ∧ SqL K H a xs ∧ SqL K H b [] ∧ Q (.bl (!xs.isEmpty)) H
/-- xs == [] -/
def rEqL (K : Frag) : R2 := fun x y H Q => ∃ a b xs, x = .ref a ∧ y = .ref b ∧ SqL K H a xs ∧ SqL K H b [] ∧ Q (.bl xs.isEmpty) H
theorem none_items {its : List Value} (r : Vals [] its) : its = [] := by
  cases r
  rfl
/-- != of a list and the empty list -/
theorem op_neL (hu : X.A.units < cLine) : OpR X (compareOp .NotEq) (rNeL X.K) := by
  intro pins s σ H x y v u Q I rx ry h
  obtain ⟨a, b, xs, rfl, rfl, ha, hb, q⟩ := h
  obtain rfl : v = Value.ref a := rx
  obtain rfl : u = Value.ref b := ry
  obtain ⟨its, r1, ⟨⟨cls, dd, data, sl⟩, n, ho, hc, hdd, hd⟩, _⟩ := I.list ha
  obtain ⟨its2, r2, ⟨⟨cls2, dd2, data2, sl2⟩, n2, ho2, hc2, hdd2, hd2⟩, _⟩ := I.list hb
  simp only at hc hd hc2 hd2
  subst hc hd hc2 hd2
  have e2 := none_items r2
  subst e2
  have ta : s.TypeIs (.ref a) "list" := ⟨_, ho, rfl⟩
  have tb : s.TypeIs (.ref b) "list" := ⟨_, ho2, rfl⟩
  show wpAny _ _ (richCompare .NotEq (.ref a) (.ref b)) _ _ s
  cases its with
  | nil =>
    have e1 : xs = [] := by cases r1; rfl
    subst e1
    refine wpAny_richCompare_same_room (op := .NotEq) ta tb F.slot_list_ne (call_meets F.slot_list_ne ta F.entry_list_ne (F.args_list_ne_2 _ _) (SeqAt.list_neAt a b _ _ n n2 dd dd2 sl sl2 rfl (fun _ => true))
      ⟨ho, ho2, fun j h1 _ => absurd h1 (by simp), ⟨(fun z => nomatch z), ⟨.bl false, H, I, rfl, q⟩⟩⟩) hu
  | cons z l =>
    have e1 : xs.isEmpty = false := by cases r1; rfl
    rw [e1] at q
    refine wpAny_richCompare_same_room (op := .NotEq) ta tb F.slot_list_ne (call_meets F.slot_list_ne ta F.entry_list_ne (F.args_list_ne_2 _ _) (SeqAt.list_ne_lengthsAt a b _ _ n n2 dd dd2 sl sl2 (by simp))
      ⟨ho, ho2, ⟨(fun z => nomatch z), ⟨.bl true, H, I, rfl, q⟩⟩⟩) hu
end
end Cv

/-! part B2 -/
set_option maxRecDepth 100000
set_option maxHeartbeats 4000000
namespace Cv
open PySem PySem.Spec PyProof.Rows L2
open PySem.W (Frag)
section
variable {prog : Program} {w : World} {A : Around} {E : Value → Shared → Prop} {s : Shared}
theorem hint_str {x : Str} {t : Tok} {Q : Bool → Shared → Prop} (h : Q false s) : wpAny (model prog w) A (Builtin.List.listLengthHint (.str x t)) Q E s := by
  have hT : s.TypeIs (.str x t) "str" := typeIs_str s x t
  unfold Builtin.List.listLengthHint
  refine wpAny_bind (wpAny_specialOf hT F.slot_str_len.lookup ?_)
  generalize hid : ("str.__len__" : String) = id0
  wp_delta
  rw [show splitId id0 = some ("str", "__len__") from by subst hid; decide +kernel]
  subst hid
  refine wpAny_bind (wpAny_isInstance (T := "str") (b := true) hT isSubtype_str_str ?_)
  refine wpAny_ite_split (fun hab => absurd hab (by decide)) (fun _ => ?_)
  refine wpAny_ite_split (fun _ => ?_) (fun hab => absurd (by decide +kernel) hab)
  refine wpAny_bind (wpAny_typeOf hT ?_)
  exact wpAny_pure h
theorem ext_str {R : Result → Shared → Prop} (hh : A.handled = none) (x : Str) (t : Tok) (S : Addr) (res : Value) (c₀ : Nat) (hS : s.heap.get? S = some { cls := .type "list", data := .seq #[] c₀ })
    (hR : ∀ h' tk acc' c', (∀ b o, b ≠ S → s.heap.get? b = some o → h'.get? b = some o) → h'.get? S = some { cls := .type "list", dict := none, data := .seq acc' c', slots := #[] } →
      ItemsOf (SignAt x) acc' x.cps.size → R (.ok (.ret res)) { s with heap := h', toks := tk }) (hn : x.cps.size ≤ sizeLine) :
    wpAny (model prog w) A.in1 (Builtin.List.listExtendWith (.ref S) (.str x t) res)
      (fun fin s' => match fin with | .done f => R (.ok f) s' | .again c' => c'.quiet = true ∧ codeAny (model prog w) A c' R s') (fun e s' => R (.error e) s') s := by
  have n1 : S ≠ s.heap.objs.size := Nat.ne_of_lt (Heap.lt_size hS)
  have n2 : S ∉ [s.heap.objs.size] := fun m => n1 (List.mem_singleton.mp m)
  unfold Builtin.List.listExtendWith
  refine wpAny_bind (wpAny_typeOf (T := "str") (v := .str x t) (typeIs_str s x t) ?_)
  have c1 : Builtin.List.listSameRef (.ref S) (.str x t) = false := rfl
  have c2 : (Value.type "str" == Value.type "list") = false := by decide
  have c3 : (Value.type "str" == Value.type "tuple") = false := by decide
  simp only [c1, c2, c3, Bool.or_false, Bool.false_eq_true, if_false]
  refine wpAny_bind (wpAny_pyIter_str fun o St W h0 => ?_)
  refine wpAny_bind (wpAny_holding (hint_str ?_))
  rw [if_neg (by first | decide | decide +kernel)]
  have W1 := W A.in1 hh
  refine wpAny_pure ⟨plainId_quiet PySem.F.plain_extend_loop _, codeAny_extend_loopS W1.toS hn _ n2 _ x.cps.size 0 _ _ _ rfl (Nat.zero_le _) h0 (Heap.get?_push_of_some _ hS) (ItemsOf.nil _) fun s' acc' c' hm hS' hacc => ?_⟩
  rw [Moved.eq_with hm]
  refine hR s'.heap s'.toks acc' c' (fun b ob hb e => hm.heap b ob (fun z => ?_) (Heap.get?_push_of_some _ e)) hS' hacc
  cases List.mem_cons.mp z with
  | inl z1 => exact hb z1
  | inr z1 => exact absurd (Heap.lt_size e) (by rw [List.mem_singleton.mp z1]; exact Nat.lt_irrefl _)
/-- list(x) of a text: its signs -/
theorem list_str {x : Str} {t : Tok} {Q : Value → Shared → Prop} (hh : A.handled = none) (hn : x.cps.size ≤ sizeLine)
    (hQ : ∀ h' tk acc' c', (∀ b o, s.heap.get? b = some o → h'.get? b = some o) → h'.get? s.heap.objs.size = some { cls := .type "list", dict := none, data := .seq acc' c', slots := #[] } →
      ItemsOf (SignAt x) acc' x.cps.size → Q (.ref s.heap.objs.size) { s with heap := h', toks := tk }) : wpAny (model prog w) A (call (.type "list") [.str x t]) Q E s := by
  refine callType_codes (Q₁ := fun obj s₁ => obj = .ref s.heap.objs.size ∧ s₁ = { s with heap := s.heap.push { cls := .type "list", data := .seq #[] } })
    PySem.F.called_list (PySem.F.typeCall_list_1 _) PySem.F.entry_list_init (code_list_new _ ⟨rfl, rfl⟩) fun obj s₁ h₁ => ?_
  obtain ⟨rfl, rfl⟩ := h₁
  have hS : (s.heap.push { cls := .type "list", data := .seq #[] }).get? s.heap.objs.size = some { cls := .type "list", data := .seq #[] } := Heap.get?_push_size _ rfl
  refine ⟨⟨_, hS, rfl⟩, PySem.F.args_list_init_2 _ _, ?_⟩
  show wpAny _ _ (do let old ← Builtin.List.listItems (.ref _); Builtin.List.listUpdate (.ref _) (fun _ => #[]); letGo old.toList.reverse; Builtin.List.listExtendWith (.ref _) (.str x t) .none) _ _ _
  refine wpAny_bind ?_
  unfold Builtin.List.listItems
  refine wpAny_bind (wpAny_seqItems hS rfl (wpAny_pure ?_))
  refine wpAny_bind (m := updateSeq s.heap.objs.size (fun _ => #[])) (wpAny_updateSeq hS rfl ?_)
  have hS2 := Heap.get?_update_self (Obj.mapSeq (fun _ => (#[] : Array Value))) hS rfl
  refine wpAny_bind (wpAny_letGo ?_)
  refine ext_str (A := A.in1) hh x t _ .none _ hS2 (fun h' tk acc' c' hk hS' hacc => ?_) hn
  exact ⟨rfl, hQ h' tk acc' c' (fun b o e => hk b o (Nat.ne_of_lt (Heap.lt_size e)) ((Heap.get?_update_other _ _ (Ne.symm (Nat.ne_of_lt (Heap.lt_size e)))).trans (Heap.get?_push_of_some _ e))) hS' hacc⟩
end
/-- the signs of a text, each a text -/
def signs (x : Str) : List Str := x.cps.toList.map fun c => ⟨#[c]⟩
section
variable {X : Cx}
theorem call_list_str (hc : X.calm = true) : CallR X (.type "list") (fun xs H Q => ∃ x, xs = [.str x] ∧ x.cps.size ≤ sizeLine ∧ ∀ p, H p = none → Q (.ref p) (upd H p (.lst ((signs x).map V.str)))) := by
  intro pins s σ H xs us Q I r h
  obtain ⟨x, rfl, hz, q⟩ := h
  obtain ⟨u, rfl, t, rfl⟩ := vals1 r
  refine list_str (I.ok.hd hc) hz fun h' tk acc c hk hp hi => ?_
  have hf : H s.heap.objs.size = none := I.hok.fresh (Nat.le_refl _)
  refine ⟨.ref s.heap.objs.size, upd H s.heap.objs.size (.lst ((signs x).map V.str)), I.laid (t' := tk) hk (Nat.le_refl _) ?_, rfl, q _ hf⟩
  have hl : (signs x).length = x.cps.size := by simp [signs]
  refine ⟨by rw [List.length_map, hl]; exact hz, acc.toList, c, ?_, by simpa using hp⟩
  refine vals_of_idx _ _ (by rw [List.length_map, hl]; exact hi.1) fun j u hj => ?_
  obtain ⟨cc, t', e1, e2⟩ := hi.2 j u (by simpa using hj)
  have e3 : x.cps.toList[j]? = some cc := by rw [Array.getElem?_toList]; exact e1
  exact ⟨.str ⟨#[cc]⟩, by rw [signs, List.map_map, List.getElem?_map, e3]; rfl, ⟨t', e2⟩⟩
end
end Cv

/-! part B3 -/
set_option maxRecDepth 100000
set_option maxHeartbeats 4000000
namespace Cv
open PySem PySem.Spec PyProof.Rows L2
open PySem.W (Frag)
section
variable {X : Cx}
/-- == of a list and the empty list -/
theorem op_eqL (hu : X.A.units < cLine) : OpR X (compareOp .Eq) (rEqL X.K) := by
  intro pins s σ H x y v u Q I rx ry h
  obtain ⟨a, b, xs, rfl, rfl, ha, hb, q⟩ := h
  obtain rfl : v = Value.ref a := rx
  obtain rfl : u = Value.ref b := ry
  obtain ⟨its, r1, ⟨⟨cls, dd, data, sl⟩, n, ho, hc, hdd, hd⟩, _⟩ := I.list ha
  obtain ⟨its2, r2, ⟨⟨cls2, dd2, data2, sl2⟩, n2, ho2, hc2, hdd2, hd2⟩, _⟩ := I.list hb
  simp only at hc hd hc2 hd2
  subst hc hd hc2 hd2
  have e2 := none_items r2
  subst e2
  have ta : s.TypeIs (.ref a) "list" := ⟨_, ho, rfl⟩
  have tb : s.TypeIs (.ref b) "list" := ⟨_, ho2, rfl⟩
  show wpAny _ _ (richCompare .Eq (.ref a) (.ref b)) _ _ s
  cases its with
  | nil =>
    have e1 : xs = [] := by cases r1; rfl
    subst e1
    refine wpAny_richCompare_same_room (op := .Eq) ta tb F.slot_list_eq (call_meets F.slot_list_eq ta F.entry_list_eq (F.args_list_eq_2 _ _) (SeqAt.list_eqAt a b _ _ n n2 dd dd2 sl sl2 rfl (fun _ => true))
      ⟨ho, ho2, fun j h1 _ => absurd h1 (by simp), ⟨(fun z => nomatch z), ⟨.bl true, H, I, rfl, q⟩⟩⟩) hu
  | cons z l =>
    have e1 : xs.isEmpty = false := by cases r1; rfl
    rw [e1] at q
    refine wpAny_richCompare_same_room (op := .Eq) ta tb F.slot_list_eq (call_meets F.slot_list_eq ta F.entry_list_eq (F.args_list_eq_2 _ _) (SeqAt.list_eq_lengthsAt a b _ _ n n2 dd dd2 sl sl2 (by simp))
      ⟨ho, ho2, ⟨(fun z => nomatch z), ⟨.bl false, H, I, rfl, q⟩⟩⟩) hu
/-- == and != of data -/
def rEqX (K : Frag) : R2 := fun x y H Q => ∃ d e j1 j2, Dx K H j1 x d ∧ Dx K H j2 y e ∧ SeqAt.shaped d = true ∧ SeqAt.shaped e = true ∧ Q (.bl (PyData.eqv d e)) H
def rNeX (K : Frag) : R2 := fun x y H Q => ∃ d e j1 j2, Dx K H j1 x d ∧ Dx K H j2 y e ∧ SeqAt.shaped d = true ∧ SeqAt.shaped e = true ∧ Q (.bl (!PyData.eqv d e)) H
theorem op_eqX (hu : X.A.units + 64 < cLine) : OpR X (compareOp .Eq) (rEqX X.K) := by
  intro pins s σ H x y v u Q I rx ry h
  obtain ⟨d, e, j1, j2, hd, he, sd, se, q⟩ := h
  obtain ⟨as, r1⟩ := Dx.reads I d x v hd rx
  obtain ⟨bs, r2⟩ := Dx.reads I e y u he ry
  exact SeqAt.compareEq_shaped r1 r2 sd se hu ⟨.bl (PyData.eqv d e), H, I, rfl, q⟩
theorem op_neX (hu : X.A.units + 64 < cLine) : OpR X (compareOp .NotEq) (rNeX X.K) := by
  intro pins s σ H x y v u Q I rx ry h
  obtain ⟨d, e, j1, j2, hd, he, sd, se, q⟩ := h
  obtain ⟨as, r1⟩ := Dx.reads I d x v hd rx
  obtain ⟨bs, r2⟩ := Dx.reads I e y u he ry
  exact SeqAt.compareNe_shaped r1 r2 sd se hu ⟨.bl (!PyData.eqv d e), H, I, rfl, q⟩
end
/-! ### tuples of data: slices, sums -/
section
variable {K : Frag} {H H' : Hp} {j a b p : Addr} {o : HO}
theorem DxAll.len' : ∀ {vs : List V} {ds : List PyData}, DxAll K H j vs ds → vs.length = ds.length
  | _, _, .nil => rfl
  | _, _, .cons _ t => by rw [List.length_cons, List.length_cons, DxAll.len' t]
theorem DxAll.take' : ∀ {vs : List V} {ds : List PyData} (n : Nat), DxAll K H j vs ds → DxAll K H j (vs.take n) (ds.take n)
  | _, _, 0, _ => .nil
  | _, _, _ + 1, .nil => .nil
  | _, _, n + 1, .cons h t => .cons h (DxAll.take' n t)
theorem DxAll.drop' : ∀ {vs : List V} {ds : List PyData} (n : Nat), DxAll K H j vs ds → DxAll K H j (vs.drop n) (ds.drop n)
  | _, _, 0, h => h
  | _, _, _ + 1, .nil => .nil
  | _, _, n + 1, .cons _ t => DxAll.drop' n t
theorem DxAll.app' : ∀ {vs ws : List V} {ds es : List PyData}, DxAll K H j vs ds → DxAll K H j ws es → DxAll K H j (vs ++ ws) (ds ++ es)
  | _, _, _, _, .nil, h => h
  | _, _, _, _, .cons h t, g => .cons h (DxAll.app' t g)
def cutD (ds : List PyData) (lo hi : Option Int) : List PyData := (ds.drop (HT.sIx ds.length 0 lo)).take (HT.sIx ds.length ds.length hi - HT.sIx ds.length 0 lo)
theorem new_tup' {xs : List V} {ds : List PyData} (hj : H j = some o) (hp : H p = none) (h : DxAll K H j xs ds) : Dx K (upd H p (.tup xs)) j (.ref p) (.tuple ds) :=
  .tup (ne_of_none hj hp).symm (.inl (.inl upd_same)) (DxAll.keep (Eff.same (same_new hp)) ds xs h)
theorem rd_slT {ds : List PyData} {lo hi : Option Int} {Q : VK} (hj : H j = some o) (hx : Dx K H j (.ref a) (.tuple ds)) (q : ∀ v H', Dx K H' j v (.tuple (cutD ds lo hi)) → Same H H' → Q v H') : rSlA K (.ref a) lo hi H Q := by
  cases hx with
  | @tup _ xs _ n s t =>
    have el := t.len'
    refine ⟨a, xs, rfl, s, fun hw => q _ _ ?_ (Same.refl H), fun _ p np => q _ _ ?_ (same_new np)⟩
    · have e : cutD ds lo hi = ds := by
        unfold cutD
        rw [← el, hw.1, hw.2, List.drop_zero]
        exact List.take_of_length_le (by omega)
      rw [e]
      exact .tup n s t
    · have t2 : DxAll K H j (cutV xs lo hi) (cutD ds lo hi) := by
        unfold cutV cutD
        rw [el]
        exact DxAll.take' _ (DxAll.drop' _ t)
      exact new_tup' hj np t2
theorem rd_catT {ds es : List PyData} {Q : VK} (hj : H j = some o) (hx : Dx K H j (.ref a) (.tuple ds)) (hy : Dx K H j (.ref b) (.tuple es)) (hz : ds.length + es.length ≤ 100000)
    (q : ∀ v H', Dx K H' j v (.tuple (ds ++ es)) → Same H H' → Q v H') : rCatA K (.ref a) (.ref b) H Q := by
  cases hx with
  | @tup _ xs _ n s t =>
    cases hy with
    | @tup _ ys _ n2 s2 t2 =>
      have e1 := t.len'
      have e2 := t2.len'
      refine ⟨a, b, xs, ys, rfl, rfl, s, s2, Nat.le_trans (show xs.length + ys.length ≤ 100000 by omega) (by decide), fun z => ?_, fun _ z => ?_, fun _ _ p np => q _ _ (new_tup' hj np (DxAll.app' t t2)) (same_new np)⟩
      · subst z
        cases t
        exact q _ _ (.tup n2 s2 t2) (Same.refl H)
      · subst z
        cases t2
        rw [List.append_nil] at q
        exact q _ _ (.tup n s t) (Same.refl H)
end
/-! ### the end of a law in which no repr runs around -/
theorem law_gd {P : Program} {w : World} {K : Frag} {mg mb : Str → Option Value} {CX : CXT} {k : Nat} {fa a : Addr} {fd : FuncData} {x : Str} {sp : Sp} {s₁ : Shared} {vs : List Value} {ns : List Int}
    (KX : K.In s₁.heap) (hns : s₁.heap.Ns mainGlobals mg) (hb : s₁.heap.Ns builtinsNs mb) (hbb : ∀ x : Str, x ≠ "__name__" → mb x = bootBuiltins x) (lim : s₁.heap.NoLimit) (hg : s₁.gens = #[])
    (ha : s₁.heap.get? a = some { cls := .type "list", data := .seq vs.toArray }) (hi : IntsAre vs ns) (hl : ns.length ≤ sizeLine) (hr : Room k callerA)
    (F : ∀ base : Heap, K.In base → base.Ns mainGlobals mg → FnG P w K mg base CX k fa fd [x] sp) (hbind : ∀ (s : Shared) (u : Value), BindsTo s fd ⟨[u], []⟩ [(x, u)])
    (hsp : ∀ H : Hp, Only H → SqL K H a (ns.map V.int) → sp [.ref a] H (fun v _ => v = .bl true) fun _ _ _ => False) (hCX : ∀ H e s', CX [] H s₁ (fun _ _ _ => False) e s' → False) :
    codeAny (model P w) callerA (.call (.ref fa) ⟨[.ref a], []⟩) (fun r s' => r = .ok (.ret (.bool true)) ∧ OldK s₁.heap s'.heap ∧ s'.os = s₁.os ∧ AllBare s'.gens) s₁ := by
  have rv : Vals (ns.map V.int) vs := L2.vals_ints hi
  have lv := hi.length
  have key : ∀ H : Hp, Only H → SqL K H a (ns.map V.int) → HOk P w H s₁.heap → (∀ b, H b ≠ none → b = a) → (H a ≠ none → K.lookup a = none) →
      codeAny (model P w) callerA (.call (.ref fa) ⟨[.ref a], []⟩) (fun r s' => r = .ok (.ret (.bool true)) ∧ OldK s₁.heap s'.heap ∧ s'.os = s₁.os ∧ AllBare s'.gens) s₁ := by
    intro H only hS hok one notK
    have plain : ∀ {b : Addr} {ob : Obj} {es : Array DictEntry} {ep : Nat}, s₁.heap.get? b = some ob → ob.data = .dict es ep → H b = none := by
      intro b ob es ep e d
      cases q : H b with
      | none => rfl
      | some u =>
        obtain rfl : b = a := one b (by rw [q]; simp)
        rw [ha] at e
        cases e
        exact nomatch (show Data.seq vs.toArray _ = Data.dict es ep from d)
    have ns2 : ∀ {b : Addr} {m : Str → Option Value}, s₁.heap.Ns b m → (hidT s₁.heap H).Ns b m := by
      rintro b m ⟨ob, es, ep, e, d, r⟩
      exact ⟨ob, es, ep, hidT_get e (plain e d), d, r⟩
    have kb : K.In (hidT s₁.heap H) := by
      intro b ob e
      refine hidT_get (KX b ob e) ?_
      cases q : H b with
      | none => rfl
      | some u =>
        obtain rfl : b = a := one b (by rw [q]; simp)
        rw [notK (by rw [q]; simp)] at e
        cases e
    obtain ⟨mc, l1, l2⟩ := lim
    have e0 : Env0 P w K mg (hidT s₁.heap H) callerA [] s₁ H := ⟨rfl, ⟨kb, ns2 hns, ⟨mb, ns2 hb, hbb⟩, ⟨mc, ns2 l1, l2⟩⟩, fun b ob e => of_hidT e, Nat.le_of_eq (hidT_size _ _), trivial,
      (fun b z => nomatch (show b ∈ ([] : List Addr) from z)), hok, .of_eq hg⟩
    refine codeAny_mono ((F _ kb (ns2 hns)).go callerA [] s₁ H ⟨[.ref a], []⟩ [.ref a] [.ref a] _ _ rfl hr e0 (hbind s₁ (.ref a)) (.cons rfl .nil) (hsp H only hS)) (fun r s' h => ?_)
    cases r with
    | error e => exact (hCX H e s' h).elim
    | ok fl =>
      cases fl with
      | next => exact False.elim h
      | brk => exact False.elim h
      | cont => exact False.elim h
      | ret u =>
        obtain ⟨v, H', os, bare, un, hok', r', q⟩ := h
        obtain rfl : v = .bl true := q
        obtain rfl : u = Value.bool true := r'
        refine ⟨rfl, OldK.of_keep (fun b ob e => ?_), os, bare⟩
        cases q : H b with
        | none => exact un.keep b ob e q (fun z => nomatch (show b ∈ ([] : List Addr) from z)) (by simp)
        | some u =>
          cases only b with
          | inl z =>
            rw [q] at z
            cases z
          | inr z =>
            obtain ⟨o1, xs, z⟩ := z
            obtain ⟨e1, _⟩ := hok b _ z
            obtain ⟨e2, _⟩ := hok' b _ (un.frzs b o1 _ z)
            rw [e] at e1
            cases e1
            exact e2
  cases hk : K.lookup a with
  | some ob =>
    have e := KX a ob hk
    rw [ha] at e
    cases e
    exact key (fun _ => none) (fun _ => .inl rfl) (.inr ⟨_, vs.toArray, _, hk, rfl, rfl, rfl, (by rw [List.size_toArray, lv]; exact hl), by simpa using rv⟩) (fun b u z => nomatch (show (none : Option HO) = some u from z)) (fun b z => absurd rfl z) (fun z => absurd rfl z)
  | none =>
    refine key (fun b => if b = a then some (.frz { cls := .type "list", data := .seq vs.toArray } (.lst (ns.map V.int))) else none) (fun b => ?_) (.inl (.inr ⟨{ cls := .type "list", data := .seq vs.toArray }, if_pos rfl⟩)) (fun b u z => ?_) (fun b z => ?_) (fun _ => hk)
    · by_cases h : b = a
      · exact .inr ⟨_, _, if_pos h⟩
      · exact .inl (if_neg h)
    · by_cases h : b = a
      · have z2 := (if_pos h).symm.trans z
        cases z2
        subst h
        exact ⟨ha, (by rw [List.length_map]; exact hl), vs, _, rv, ha⟩
      · exact nomatch ((if_neg h).symm.trans z)
    · by_cases h : b = a
      · exact h
      · exact absurd (if_neg h) z
theorem walk_gd {l : PySem.W.OpenLaw} {n k : Nat} {q : Program} {loose : List Str} {XP : (Str → Option Value) → Heap → Prop} {YP : World → Heap → Prop} {d : DefRec} {K : Params → Frag} {CX : World → CXT} {sp : World → Sp} {x : Str}
    (hn : l.most = some n) (hn2 : n ≤ sizeLine) (hdf : d.params.defaults = []) (hr : Room k callerA) (hY : ∀ (w : World) (h : Heap), YP w h → (K w.params).In h)
    (F : ∀ (w : World) (mg : Str → Option Value) (fa : Addr) (h : Heap), (K w.params).In h → h.Ns mainGlobals mg → mg d.name = some (.ref fa) →
      ∃ fd : FuncData, (∀ (s : Shared) (u : Value), BindsTo s fd ⟨[u], []⟩ [(x, u)]) ∧ ∀ base : Heap, (K w.params).In base → base.Ns mainGlobals mg → FnG l.prog w (K w.params) mg base (CX w) k fa fd [x] (sp w))
    (hsp : ∀ (w : World) (H : Hp) (a : Addr) (ns : List Int), ns.length ≤ n → Only H → SqL (K w.params) H a (ns.map V.int) → sp w [.ref a] H (fun v _ => v = .bl true) fun _ _ _ => False)
    (hCX : ∀ (w : World) (H : Hp) (s : Shared) (e : Value) (s' : Shared), CX w [] H s (fun _ _ _ => False) e s' → False) : PySem.W.WalkO q loose XP YP l.row.toRowW d [] (fun f vs => PySem.call f vs) := by
  refine Att.attach_call hn hdf (fun w s₀ s₁ mg mb fa o pm cd doc a vs ns G Y ho hd hcd hmg hobj hints hlen hg => ?_)
  have kx := hY w _ Y
  obtain ⟨fd, hb, hF⟩ := F w mg fa _ kx G.T.g hmg
  exact law_gd kx G.T.g G.T.b G.T.builtins G.T.nolimit hg hobj hints (Nat.le_trans hlen hn2) hr hF hb (fun H only hS => hsp w H a ns hlen only hS) (fun H e s' => hCX w H s₁ e s')
end Cv

/-! part B4 -/
set_option maxRecDepth 100000
set_option maxHeartbeats 4000000
namespace Cv
open PySem PySem.Spec PyProof.Rows L2
open PySem.W (Frag)
/-! ### the texts of a list, each once -/
def dedStep (σ : List Str) (x : Str) : List Str := if σ.any (· == x) = true then σ else σ ++ [x]
def ded (xs : List Str) : List Str := xs.foldl dedStep []
theorem ded_snoc (xs : List Str) (x : Str) : ded (xs ++ [x]) = dedStep (ded xs) x := by
  unfold ded
  rw [List.foldl_append]
  rfl
theorem ded_le (xs : List Str) : (ded xs).length ≤ xs.length := by
  have key : ∀ (ys σ : List Str), (ys.foldl dedStep σ).length ≤ σ.length + ys.length := by
    intro ys
    induction ys with
    | nil => intro σ; exact Nat.le_refl _
    | cons y ys ih =>
      intro σ
      have h1 := ih (dedStep σ y)
      have h2 : (dedStep σ y).length ≤ σ.length + 1 := by
        unfold dedStep
        split
        · omega
        · rw [List.length_append]; exact Nat.le_refl _
      show (ys.foldl dedStep (dedStep σ y)).length ≤ σ.length + (ys.length + 1)
      omega
  have := key xs []
  simpa [ded] using this
theorem dedStep_any (σ : List Str) (x k : Str) : (dedStep σ x).any (· == k) = (σ.any (· == k) || decide (k = x)) := by
  unfold dedStep
  by_cases h : σ.any (· == x) = true
  · rw [if_pos h]
    by_cases e : k = x
    · rw [e, h]
      rfl
    · rw [decide_eq_false e, Bool.or_false]
  · rw [if_neg h, List.any_append]
    congr 1
    show ((x == k) || false) = decide (k = x)
    rw [Bool.or_false]
    by_cases e : k = x
    · rw [decide_eq_true e, e]
      exact beq_iff_eq.mpr rfl
    · rw [decide_eq_false e]
      exact beq_eq_false_iff_ne.mpr fun z => e z.symm
theorem dedStep_len (σ : List Str) (x : Str) : (dedStep σ x).length = if σ.any (· == x) = true then σ.length else σ.length + 1 := by
  unfold dedStep
  split
  · rfl
  · rw [List.length_append]; rfl
theorem ded_mem : ∀ (ys σ : List Str) (k : Str), k ∈ ys.foldl dedStep σ ↔ k ∈ σ ∨ k ∈ ys
  | [], σ, k => by simp
  | y :: ys, σ, k => by
    show k ∈ ys.foldl dedStep (dedStep σ y) ↔ _
    rw [ded_mem ys]
    have h : k ∈ dedStep σ y ↔ k ∈ σ ∨ k = y := by
      have e : (dedStep σ y).any (· == k) = true ↔ (σ.any (· == k) || decide (k = y)) = true := by rw [dedStep_any]
      simp only [List.any_eq_true, beq_iff_eq, Bool.or_eq_true, decide_eq_true_eq, exists_eq_right] at e
      exact e
    rw [h, List.mem_cons, or_assoc]
theorem ded_nodup {xs : List Str} (h : xs.Nodup) : (ded xs).length = xs.length := by
  have key : ∀ (ys σ : List Str), (σ ++ ys).Nodup → ys.foldl dedStep σ = σ ++ ys := by
    intro ys
    induction ys with
    | nil => intro σ _; exact (List.append_nil σ).symm
    | cons y ys ih =>
      intro σ hn
      have hy : σ.any (· == y) = false := by
        rw [Bool.eq_false_iff]
        intro z
        obtain ⟨a, ha, e⟩ := List.any_eq_true.mp z
        have e' : a = y := beq_iff_eq.mp e
        subst e'
        exact (List.nodup_append.mp hn).2.2 a ha a List.mem_cons_self rfl
      have e1 : dedStep σ y = σ ++ [y] := by
        unfold dedStep
        rw [hy]
        rfl
      show ys.foldl dedStep (dedStep σ y) = _
      rw [e1, ih (σ ++ [y]) (by rw [List.append_assoc]; exact hn), List.append_assoc]
      rfl
  unfold ded
  rw [key xs [] (by simpa using h)]
  rfl
theorem ded_dup {xs : List Str} (h : ¬ xs.Nodup) : (ded xs).length ≠ xs.length := by
  intro e
  refine h ?_
  have key : ∀ (ys σ : List Str), σ.Nodup → (ys.foldl dedStep σ).length = σ.length + ys.length → (σ ++ ys).Nodup := by
    intro ys
    induction ys with
    | nil => intro σ hs _; rw [List.append_nil]; exact hs
    | cons y ys ih =>
      intro σ hs hl
      have b1 : (ys.foldl dedStep (dedStep σ y)).length ≤ (dedStep σ y).length + ys.length := by
        have key2 : ∀ (zs τ : List Str), (zs.foldl dedStep τ).length ≤ τ.length + zs.length := by
          intro zs
          induction zs with
          | nil => intro τ; exact Nat.le_refl _
          | cons z zs ih2 =>
            intro τ
            have h1 := ih2 (dedStep τ z)
            have h2 := dedStep_len τ z
            show (zs.foldl dedStep (dedStep τ z)).length ≤ τ.length + (zs.length + 1)
            split at h2 <;> omega
        exact key2 ys (dedStep σ y)
      have b2 := dedStep_len σ y
      have hl' : (ys.foldl dedStep (dedStep σ y)).length = σ.length + (ys.length + 1) := hl
      by_cases hy : σ.any (· == y) = true
      · rw [if_pos hy] at b2
        omega
      · rw [if_neg hy] at b2
        have e1 : dedStep σ y = σ ++ [y] := by
          unfold dedStep
          rw [if_neg hy]
        have hny : y ∉ σ := fun m => hy (List.any_eq_true.mpr ⟨y, m, beq_iff_eq.mpr rfl⟩)
        have h3 := ih (σ ++ [y]) (by
          rw [List.nodup_append]
          refine ⟨hs, by simp, fun a ha b hb => ?_⟩
          have : b = y := by simpa using hb
          subst this
          exact fun z => hny (z ▸ ha)) (by rw [← e1]; omega)
        rw [List.append_assoc] at h3
        exact h3
  have := key xs [] List.nodup_nil (by simpa [ded] using e)
  simpa using this
/-! ### set(t), t a tuple of texts -/
section
variable {prog : Program} {w : World} {A : Around} {E : Value → Shared → Prop} {s : Shared}
theorem many_add {R : Result → Shared → Prop} {I : Addr} {fp wr : List Addr} {G : Array GenState → Array GenState → Prop} {Pv : Nat → Value → Prop} {St : Nat → Shared → Prop} {xs : List Str} (W : WalksS prog w A.in1 I fp wr G xs.length Pv St) {S : Addr} (hSf : S ∉ fp)
    (hv : ∀ i v, Pv i v → ∃ x t, xs[i]? = some x ∧ v = .str x t) (hb : xs.length + 1 < scanBound) : ∀ (k i : Nat) (s : Shared), i + k = xs.length → St i s → s.heap.SetOf (strKind prog w) S (fun y => (ded (xs.take i)).any (· == y)) (ded (xs.take i)).length →
      (∀ s', Moved (S :: wr) G s s' → s'.heap.SetOf (strKind prog w) S (fun y => (ded xs).any (· == y)) (ded xs).length → R (.ok (.ret .none)) s') → codeAny (model prog w) A (.builtin "set.update.loop" ⟨[.ref S, .ref I], []⟩) R s := by
  have out : S ∉ wr := fun m => hSf (W.sub _ m)
  have wide : ∀ b ∈ wr, b ∈ S :: wr := fun b m => List.mem_cons_of_mem _ m
  have stays : ∀ {s s' : Shared} {F : Str → Bool} {n : Nat}, Moved wr G s s' → s.heap.SetOf (strKind prog w) S F n → s'.heap.SetOf (strKind prog w) S F n := by
    rintro s s' F n m ⟨o, es, ep, t, ho, r⟩
    exact ⟨o, es, ep, t, m.heap S _ out ho, r⟩
  intro k
  induction k with
  | zero =>
    intro i s hi st hS fin
    have e : i = xs.length := hi
    subst e
    refine codeAny_builtin PyProof.Rows.F.entry_set_update_loop ?_
    rw [Around.under_plainId PyProof.Rows.F.plain_set_update_loop _]
    refine wpAny_bind (m := pyNext (.ref I)) (W.done s _ _ st fun s' m => ?_)
    rw [List.take_length] at hS
    exact wpAny_pure (fin s' (m.mono wide) (stays m hS))
  | succ k ih =>
    intro i s hi st hS fin
    refine codeAny_builtin PyProof.Rows.F.entry_set_update_loop ?_
    rw [Around.under_plainId PyProof.Rows.F.plain_set_update_loop _]
    refine wpAny_bind (m := pyNext (.ref I)) (W.item i s _ _ (by omega) st fun v s' p st' m => ?_)
    obtain ⟨x, t, hx, rfl⟩ := hv i v p
    have hS' := stays m hS
    have e1 : ded (xs.take (i + 1)) = dedStep (ded (xs.take i)) x := by rw [List.take_add_one, hx, ← ded_snoc]; rfl
    have hl : (ded (xs.take i)).length ≤ i := Nat.le_trans (ded_le _) (by rw [List.length_take]; omega)
    refine wpAny_bind (m := holding [Value.str x t] (setAdd S (.str x t))) (wpAny_holding (wpAny_holding (wpAny_bind ((strKind prog w).pyHash (k := x) (strKind_is _ _ _ _) ?_))))
    refine wpAny_setAddHashed_of (knd := strKind prog w) (s := { s' with toks := s'.toks + 1 }) (strKind_is _ _ _ _) rfl hS' (by omega) fun h' sb hS2 => ?_
    have hS3 : h'.SetOf (strKind prog w) S (fun y => (ded (xs.take (i + 1))).any (· == y)) (ded (xs.take (i + 1))).length := PyProof.Rows.SetOf_congr hS2 (fun y => by rw [e1, dedStep_any]) (by rw [e1, dedStep_len])
    refine wpAny_pure ⟨plainId_quiet PyProof.Rows.F.plain_set_update_loop _, ih (i + 1) _ (by omega) (W.frame _ s' _ _ st' (Nat.le_succ _) fun b m2 o e => (sb.2 b fun z => hSf (z ▸ m2)).trans e) hS3 fun s2 m2 hS4 => ?_⟩
    exact fin s2 (Moved.trans W.gtrans ((m.mono wide).then_heap (Nat.le_succ _) fun b o z e => (sb.2 b fun y => z (y ▸ List.mem_cons_self)).trans e) m2) hS4
abbrev setOb (led : Bool) : Obj := { cls := .type "set", dict := none, data := .set #[] 0 (.fresh 0 0 led) }
/-- set(v): a fresh set, then its __init__ -/
theorem set_open {v : Value} {Q : Value → Shared → Prop} (h : ∀ led : Bool, wpAny (model prog w) A.in1.in1 (Builtin.«set.__init__» ⟨[.ref s.heap.objs.size, v], []⟩)
      (fun fin s' => match fin with | .done f => wants (fun r s₂ => r = .none ∧ Q (.ref s.heap.objs.size) s₂) E (.ok f) s' | .again c' => c'.quiet = true ∧ codeAny (model prog w) A.in1 c' (wants (fun r s₂ => r = .none ∧ Q (.ref s.heap.objs.size) s₂) E) s')
      (fun e s' => wants (fun r s₂ => r = .none ∧ Q (.ref s.heap.objs.size) s₂) E (.error e) s') { s with heap := s.heap.push (setOb led) }) : wpAny (model prog w) A (call (.type "set") [v]) Q E s := by
  obtain ⟨c, tl, hmro⟩ := PySem.F.called_set.mro
  have k1 := PySem.F.called_set.made
  have k2 := PySem.F.called_set.sub
  refine wpAny_call (codeAny_of_tree (show wpAny _ _ (callAny (.type "set") _) _ _ _ from wpAny_pure ⟨Code.quiet_builtin _ (by decide +kernel), codeAny_builtin PySem.F.entry_type_call ?_⟩))
  rw [Around.under_plain (weight_type_call_type "set" [v] []) rfl]
  have k3 := PySem.F.called_set.notType
  have k4 := PySem.F.called_set.canCreate
  have k5 := PySem.F.typeCall_set_1 v
  repeat (any_goals (first | assumption | wp_step))
  refine codeAny_mono (code_set_new_1 v (E := E) (Q₁ := fun obj s₁ => ∃ led : Bool, obj = .ref s.heap.objs.size ∧ s₁ = { s with heap := s.heap.push (setOb led) }) fun led => ⟨led, rfl, rfl⟩) fun r s₁ hr => ?_
  match r, hr with
  | .error e, hr => exact hr
  | .ok (.ret obj), hr =>
    obtain ⟨led, rfl, rfl⟩ := hr
    have hT : Shared.TypeIs { s with heap := s.heap.push (setOb led) } (.ref s.heap.objs.size) "set" := ⟨_, Heap.get?_push_size _ rfl, rfl⟩
    have k6 := PySem.F.called_set.init.lookup
    have k7 := PySem.F.called_set.init.bind (.ref s.heap.objs.size)
    repeat (any_goals (first | assumption | wp_step))
    refine codeAny_mono (codeAny_call_builtin (R := wants (fun r s₂ => r = .none ∧ Q (.ref s.heap.objs.size) s₂) E) PySem.F.called_set.init.plain PySem.F.entry_set_init (check_set_init_1 hT (h led))) fun r₂ s₂ hr₂ => ?_
    match r₂, hr₂ with
    | .error e, hr₂ => exact hr₂
    | .ok (.ret r), hr₂ =>
      obtain ⟨rfl, q⟩ := hr₂
      repeat (any_goals (first | assumption | wp_step))
theorem call_set_texts {l : Addr} {items : Array Value} {xs : List Str} {Q : Value → Shared → Prop} (hh : A.handled = none) (hl : s.heap.IsTuple l items) (hi : StrsAre items.toList xs) (hb : xs.length + 1 < scanBound)
    (h : ∀ (h' : Heap) (tk : Nat), h'.SetOf (strKind prog w) s.heap.objs.size (fun y => (ded xs).any (· == y)) (ded xs).length → (∀ b o, s.heap.get? b = some o → h'.get? b = some o) → Q (.ref s.heap.objs.size) { s with heap := h', toks := tk }) : wpAny (model prog w) A (call (.type "set") [.ref l]) Q E s := by
  refine set_open fun led => ?_
  have hsz : items.size = xs.length := by rw [← StrsAre.len_eq hi, Array.length_toList]
  obtain ⟨⟨oc, od, oda, osl⟩, hol, hcl, nl, hdl⟩ := hl
  simp only at hcl hdl
  subst hcl hdl
  have ltl : l < s.heap.objs.size := Heap.lt_size hol
  have hol' : (s.heap.push (setOb led)).get? l = some { cls := .type "tuple", dict := od, data := .seq items nl, slots := osl } := Heap.get?_push_of_some _ hol
  have hl1 : (s.heap.push (setOb led)).IsTuple l items := ⟨_, hol', rfl, nl, rfl⟩
  have hT : Shared.TypeIs { s with heap := s.heap.push (setOb led) } (.ref s.heap.objs.size) "set" := ⟨_, Heap.get?_push_size _ rfl, rfl⟩
  have hS : (s.heap.push (setOb led)).get? s.heap.objs.size = some (setOb led) := Heap.get?_push_size _ rfl
  have k8 := PySem.F.sub_tuple_set
  have k9 := PySem.F.sub_tuple_frozenset
  have k10 : (Value.type "tuple" == Value.type "dict") = false := by decide
  unfold Builtin.«set.__init__» noKeywords Builtin.Frozenset.updateFrom
  generalize hPI : pyIter = PI
  wp_walk
  subst hPI
  have e1 : (s.heap.push (setOb led)).objs.size = s.heap.objs.size + 1 := Heap.size_push ..
  have hout : s.heap.objs.size ∉ [(s.heap.push (setOb led)).objs.size, l] := by
    rw [e1]
    intro m
    rcases List.mem_cons.mp m with z | z
    · exact Nat.ne_of_lt (Nat.lt_succ_self _) z
    · exact Nat.ne_of_gt ltl (List.mem_singleton.mp z)
  have hh3 : A.in1.in1.in1.handled = none := by simp [hh]
  refine wpAny_pyIter_tuple hl1 (wpAny_bind (wpAny_runValue ?_))
  have W0 := (Walks.tuple (prog := prog) (w := w) hh3 _ l (show l ≠ (s.heap.push (setOb led)).objs.size by rw [e1]; exact Nat.ne_of_lt (Nat.lt_succ_of_lt ltl)) items).toS
  rw [hsz] at W0
  refine many_add (xs := xs) W0 hout (fun i v p => ?_) hb xs.length 0 _ (by omega) ⟨⟨_, Heap.get?_push_size _ rfl, rfl, rfl⟩, hl1.push _⟩ ?_ ?_
  · have hil : i < xs.length := by rw [← hsz]; exact (Array.getElem?_eq_some_iff.mp p).1
    obtain ⟨t, e⟩ := SS.strs_at hi i v (by rw [Array.getElem?_toList]; exact p)
    refine ⟨xs[i], t, List.getElem?_eq_getElem hil, ?_⟩
    rw [e, List.getD_eq_getElem?_getD, List.getElem?_eq_getElem hil]
    rfl
  · exact PyProof.Rows.SetOf_congr ((PyProof.Rows.setObjOf_fresh (knd := strKind prog w) led).setOf (Heap.get?_push_of_some _ hS) (by unfold scanBound; omega)) (fun _ => rfl) rfl
  · rintro ⟨h', g', d', tk', os'⟩ m hS'
    obtain rfl : g' = s.gens := m.gens
    obtain rfl : d' = s.drawn := m.drawn
    obtain rfl : os' = s.os := m.os
    refine wpAny_pure (show wpAny _ _ (ret Value.none) _ _ _ from wpAny_pure ⟨rfl, h h' tk' hS' fun b o e => ?_⟩)
    have lb := Heap.lt_size e
    refine m.heap b o (fun z => ?_) (Heap.get?_push_of_some _ (Heap.get?_push_of_some _ e))
    rcases List.mem_cons.mp z with z | z
    · exact Nat.ne_of_lt lb z
    · rw [e1] at z
      rcases List.mem_cons.mp z with z | z
      · exact Nat.ne_of_lt (Nat.lt_succ_of_lt lb) z
      · cases z
end
end Cv

/-! part B5 -/

set_option maxRecDepth 100000
set_option maxHeartbeats 4000000
namespace Cv
open PySem PySem.Spec PyProof.Rows L2
open PySem.W (Frag)
/-! ### t[::-1] -/
theorem adj_rev (n : Nat) : Builtin.Slice.sliceAdjust none none (-1) (n : Int) = ((n : Int) - 1, -1) := rfl
theorem places_rev (n : Nat) : Builtin.Slice.slicePlaces ((n : Int) - 1) (-1) (-1) = n := by
  unfold Builtin.Slice.slicePlaces
  rw [if_neg (by decide)]
  by_cases h : n = 0
  · subst h
    decide
  · rw [if_pos (by omega)]
    show (((n : Int) - 1 - (-1) - 1) / 1 + 1).toNat = n
    rw [Int.ediv_one]
    omega
theorem pick_rev (xs : Array Value) : (((List.range xs.size).filterMap fun (k : Nat) => xs[(((xs.size : Int) - 1) + (k : Int) * (-1)).toNat]?)).toArray = xs.toList.reverse.toArray := by
  congr 1
  refine List.ext_getElem? fun i => ?_
  have key : ∀ m, m ≤ xs.size → (List.range m).filterMap (fun (k : Nat) => xs[(((xs.size : Int) - 1) + (k : Int) * (-1)).toNat]?) = xs.toList.reverse.take m := by
    intro m
    induction m with
    | zero => intro _; rfl
    | succ m ih =>
      intro hm
      rw [List.range_succ, List.filterMap_append, ih (by omega), List.take_add_one]
      congr 1
      have e : (((xs.size : Int) - 1) + (m : Int) * (-1)).toNat = xs.size - 1 - m := by omega
      show (List.filterMap (fun (k : Nat) => xs[(((xs.size : Int) - 1) + (k : Int) * (-1)).toNat]?) [m]) = _
      rw [List.filterMap_cons, e]
      have h2 : xs.toList.reverse[m]? = xs[xs.size - 1 - m]? := by
        rw [List.getElem?_reverse (by rw [Array.length_toList]; omega), Array.length_toList, Array.getElem?_toList]
      rw [h2]
      cases xs[xs.size - 1 - m]? with
      | none => rfl
      | some v => rfl
  rw [key xs.size (Nat.le_refl _), List.take_of_length_le (by rw [List.length_reverse, Array.length_toList]; exact Nat.le_refl _)]
section
variable {prog : Program} {w : World} {A : Around} {E : Value → Shared → Prop} {s : Shared}
theorem applied_rev {sl : Addr} {vl vu vs : Value} {n : Nat} {Q : Int × Int × Nat → Shared → Prop} (hs : s.heap.IsSliceOf sl vl vu vs) (pl : IsPart vl none) (pu : IsPart vu none) (ps : IsPart vs (some (-1)))
    (h : Q ((n : Int) - 1, -1, n) s) : wpAny (model prog w) A (Builtin.Slice.sliceApplied (.ref sl) (pure (n : Int))) Q E s := by
  obtain ⟨os, ho, hc, hd⟩ := id hs
  unfold Builtin.Slice.sliceApplied Builtin.Slice.sliceFields
  refine wpAny_bind (wpAny_bind (wpAny_field ho hd (x := vl) rfl (wpAny_bind (wpAny_field ho hd (x := vu) rfl (wpAny_bind (wpAny_field ho hd (x := vs) rfl (wpAny_pure ?_)))))))
  refine wpAny_bind (HT.slicePart_ ps ?_)
  show wpAny _ _ (if ((-1 : Int) == 0) = true then _ else _) _ _ s
  rw [if_neg (by decide)]
  refine wpAny_bind (HT.slicePart_ pl (wpAny_bind (HT.slicePart_ pu (wpAny_bind (wpAny_pure ?_)))))
  show wpAny _ _ (match Builtin.Slice.sliceAdjust none none (-1) (n : Int) with | (lo, hi) => pure (lo, (-1 : Int), Builtin.Slice.slicePlaces lo hi (-1))) _ _ s
  rw [adj_rev n]
  show wpAny _ _ (pure ((n : Int) - 1, (-1 : Int), Builtin.Slice.slicePlaces ((n : Int) - 1) (-1) (-1))) _ _ s
  rw [places_rev]
  exact wpAny_pure h
theorem item_rev {t sl : Addr} {items : Array Value} {vl vu vs : Value} {Q : Value → Shared → Prop} (ht : IsTup s.heap t items) (hs : s.heap.IsSliceOf sl vl vu vs) (pl : IsPart vl none) (pu : IsPart vu none) (ps : IsPart vs (some (-1)))
    (h : Q (.ref s.heap.objs.size) { s with heap := s.heap.push { cls := .type "tuple", data := .seq items.toList.reverse.toArray } }) (hsz : items.size ≤ sizeLine) : wpAny (model prog w) A (getItem (.ref t) (.ref sl)) Q E s := by
  have fits : sizeOk (.seq items.toList.reverse.toArray) := by
    show items.toList.reverse.toArray.size ≤ sizeLine
    rw [List.size_toArray, List.length_reverse, Array.length_toList]
    exact hsz
  obtain ⟨os, ho, hc, hd⟩ := id hs
  have hT : s.TypeIs (.ref sl) "slice" := ⟨os, ho, hc⟩
  unfold getItem
  try with_reducible refine wpAny_holding ?_
  first | refine wpAny_bind (wpAny_pure ?_) | skip
  refine wpAny_bind (wpAny_sequenceKey ht.typeIs (by decide) (wpAny_bind (wpAny_callSpecial?_slot (name := Str.ofString "__getitem__") ht.typeIs PyProof.Rows.slot_tuple_getitem (wpAny_call_entry PyProof.Rows.slot_tuple_getitem ht.typeIs entry_tuple_getitem ?_ (args_tuple_getitem _ _)))))
  show wpAny _ _ (Builtin.Tuple.tupleItemsOf (.ref t) >>= _) _ _ s
  refine wpAny_bind (tupleItemsOf_ ht (wpAny_bind (wpAny_typeOf hT ?_)))
  rw [if_pos (by decide)]
  refine wpAny_bind (applied_rev hs pl pu ps ?_)
  have no : ¬ ((((items.size : Int) - 1) == 0 && (-1 : Int) == 1 && items.size == items.size) = true) := by
    intro q
    rw [Bool.and_eq_true, Bool.and_eq_true] at q
    exact absurd q.1.2 (by decide)
  show wpAny _ _ (if (((items.size : Int) - 1) == 0 && (-1 : Int) == 1 && items.size == items.size) = true then _ else _) _ _ s
  rw [if_neg no, pick_rev]
  first
    | exact wpAny_bind (m := Builtin.Tuple.tupleExact _) (wpAny_newObj_type (wpAny_pure ⟨_, rfl, wpAny_pure h⟩) fits)
    | exact wpAny_bind (m := Builtin.Tuple.tupleExact _) (wpAny_newObj_type (wpAny_bind (wpAny_pure (wpAny_pure ⟨_, rfl, wpAny_pure h⟩))) fits)
    | exact wpAny_bind (wpAny_bind (m := Builtin.Tuple.tupleExact _) (wpAny_newObj_type (wpAny_pure (wpAny_pure ⟨_, rfl, wpAny_pure h⟩)) fits))
    | exact wpAny_bind (wpAny_bind (m := Builtin.Tuple.tupleExact _) (wpAny_newObj_type (wpAny_pure ⟨_, rfl, wpAny_pure h⟩) fits))
end
section
variable {X : Cx}
def tRevT (K : Frag) (te : TE) : TE := fun σ H Q => te σ H fun x H1 => ∃ a xs, x = .ref a ∧ SqT K H1 a xs ∧ ∀ p, H1 p = none → Q (.ref p) (upd H1 p (.tup xs.reverse))
theorem pe_revT {e : Expr} {te : TE} {k : Nat} {p1 p2 p3 pos : Pos} (he : PE X e te) : PE X (.Subscript e (.Slice none none (some (.UnaryOp .USub (.Constant (.int 1) k p1) p2)) p3) pos) (tRevT X.K te) := by
  refine ⟨fun pins s σ H Q I h => ?_⟩
  refine Subscript_ (thn (he.run pins s σ H _ I h) fun v s1 ⟨x, H1, I1, r1, q1⟩ => ?_)
  obtain ⟨a, xs, rfl, hx, q⟩ := q1
  cases r1
  have one : PO X (some (.UnaryOp .USub (.Constant (.int 1) k p1) p2)) (tPart (tUn (rU fun i => .int (-i)) (tC (.int 1)))) := po_some (pe_un un_neg pe_int)
  refine wpAny_Slice (thn (po_none.run pins s1 σ H1 (fun o H2 => o = none ∧ H2 = H1) I1 ⟨rfl, rfl⟩) fun vl s2 ⟨l, H2, I2, pl, el, e2⟩ => ?_)
  subst el e2
  refine thn (po_none.run pins s2 σ H2 (fun o H3 => o = none ∧ H3 = H2) I2 ⟨rfl, rfl⟩) fun vu s3 ⟨u, H3, I3, pu, eu, e3⟩ => ?_
  subst eu e3
  refine thn (one.run pins s3 σ H3 (fun o H4 => o = some (-1) ∧ H4 = H3) I3 ⟨1, rfl, -1, rfl, rfl, rfl⟩) fun vs s4 ⟨o, H4, I4, ps, eo, e4⟩ => ?_
  subst eo e4
  have I5 : Inv X pins σ H4 { s4 with heap := s4.heap.push { cls := .type "slice", data := .fields #[vl, vu, vs] } } := I4.kept (t' := s4.toks) fun b ob q => Heap.get?_push_of_some _ q
  obtain ⟨its, r, ht, hz⟩ := I5.tuple hx
  have hlen := r.length
  show wpAny (model X.prog X.w) X.A (subscriptTail e (.Slice none none (some (.UnaryOp .USub (.Constant (.int 1) k p1) p2)) p3) (.ref a) (.ref s4.heap.objs.size)) (EP X pins σ Q) X.xe { s4 with heap := s4.heap.push { cls := .type "slice", data := .fields #[vl, vu, vs] } }
  refine tail_any (ops := [.ref a, .ref s4.heap.objs.size]) ht.typeIs (PyProof.Rows.slot_tuple_getitem.lookup) ?_ (by with_unfolding_all rfl)
  refine item_rev ht (Heap.IsSliceOf.new _ vl vu vs) pl pu ps ?_ (by rw [List.size_toArray, ← hlen]; exact hz)
  refine ⟨.ref _, _, I5.laid (t' := s4.toks) (o := .tup xs.reverse) (fun b ob q => Heap.get?_push_of_some _ q) (Nat.le_refl _) ?_, rfl, q _ (I5.hok.fresh (Nat.le_refl _))⟩
  exact ⟨by rw [List.length_reverse]; exact hz, _, r.reverse, IsTup.new _ _⟩
end
end Cv

/-! part B6 -/
set_option maxRecDepth 100000
set_option maxHeartbeats 4000000
namespace Cv
open PySem PySem.Spec PyProof.Rows L2
open PySem.W (Frag)
/-! ### sorted(t), t a tuple of texts -/
section
variable {prog : Program} {w : World} {A : Around} {E : Value → Shared → Prop} {s : Shared}
theorem tup_collect {l : Addr} {vs : List Value} {Q : List Value → Shared → Prop} (ht : IsTup s.heap l vs.toArray) (hz : vs.length ≤ sizeLine)
    (h : Q vs { s with heap := (s.heap.push (seqObj "list" #[] 0)).update s.heap.objs.size (Obj.mapSeq (· ++ vs.toArray)) }) : wpAny (model prog w) A (collect (.ref l)) Q E s := by
  obtain ⟨o, ho, hc, n, hd⟩ := id ht
  have old : (s.heap.push (seqObj "list" #[] 0)).get? l = some o := Heap.get?_push_of_some _ ho
  have new : (s.heap.push (seqObj "list" #[] 0)).get? s.heap.objs.size = some (seqObj "list" #[] 0) := Heap.get?_push_size _ rfl
  unfold collect
  refine wpAny_bind (wpAny_runValue (codeAny_builtin entry_proto_collect' (show wpAny _ _ (do again (.builtin "list.__iadd__" ⟨[← newList [], .ref l], []⟩)) _ _ s from
    wpAny_bind (wpAny_newList (wpAny_pure ⟨Code.quiet_builtin _ (by decide +kernel), codeAny_builtin entry_list_iadd' ?_⟩)))))
  show wpAny _ _ (Builtin.List.listExtendWith (.ref s.heap.objs.size) (.ref l) (.ref s.heap.objs.size)) _ _ { s with heap := s.heap.push (seqObj "list" #[] 0) }
  unfold Builtin.List.listExtendWith
  refine wpAny_bind (wpAny_typeOf (T := "tuple") ⟨o, old, hc⟩ ?_)
  rw [if_pos (by rw [show (Value.type "tuple" == Value.type "tuple") = true from rfl]; simp)]
  refine wpAny_bind (listItems_at old hd (wpAny_bind (listItems_at (xs := #[]) (n := 0) new rfl ?_)))
  rw [if_neg (by simp)]
  refine wpAny_bind (listUpdate_at (xs := #[]) (n := 0) new rfl (wpAny_pure ?_) (Nat.zero_le _) (by show (#[] ++ vs.toArray).size ≤ sizeLine + 1; simp only [Array.size_append, List.size_toArray, List.length_nil]; omega))
  refine wpAny_bind (wpAny_load (get?_update_seq new _) (show wpAny _ _ (pure ((#[] : Array Value) ++ vs.toArray).toList) Q E _ from ?_))
  rw [show ((#[] : Array Value) ++ vs.toArray).toList = vs by simp]
  exact wpAny_pure h
theorem tup_sorted {l : Addr} {vs : List Value} {ss : List Str} {Q : Value → Shared → Prop} (ht : IsTup s.heap l vs.toArray) (hS : StrsAre vs ss) (hz : vs.length ≤ sizeLine)
    (h : ∀ (out : Array Value) (ss' : List Str), StrsAre out.toList ss' → ss'.Perm ss → sortedS ss' = true → Q (.ref (s.heap.objs.size + 1)) { s with heap := sortedAll s.heap vs out }) : wpAny (model prog w) A (call (.builtin "sorted") [.ref l]) Q E s := by
  refine Calls.call_function_entry kind_sorted plain_sorted entry_sorted (args_sorted1 _) ?_
  unfold Builtin.«sorted»
  refine wpAny_bind (m := checkCount "sorted" 1 1 _) (wpAny_pure (wpAny_bind (tup_collect ht hz (wpAny_bind (wpAny_newList ?_ hz)))))
  have e1 : ((s.heap.push (seqObj "list" #[] 0)).update s.heap.objs.size (Obj.mapSeq (· ++ vs.toArray))).objs.size = s.heap.objs.size + 1 := by rw [Heap.size_update, size_push']
  have at1 : (((s.heap.push (seqObj "list" #[] 0)).update s.heap.objs.size (Obj.mapSeq (· ++ vs.toArray))).push (seqObj "list" vs.toArray 0)).get? (s.heap.objs.size + 1) = some (seqObj "list" vs.toArray 0) := by rw [← e1]; exact Heap.get?_push_size _ rfl
  show wpAny _ _ _ _ _ { s with heap := ((s.heap.push (seqObj "list" #[] 0)).update s.heap.objs.size (Obj.mapSeq (· ++ vs.toArray))).push (seqObj "list" vs.toArray 0) }
  rw [e1]
  refine wpAny_bind (wpAny_holding (wpAny_call_entry slot_list_sort ⟨_, at1, rfl⟩ entry_list_sort (list_sort_treeKAny strKind_oneLt at1 hS.keysOf (fun v₁ v₂ rest e => keyKind_strs (by rw [← e]; exact hS)) hz fun st hp hs => ⟨_, rfl, ?_⟩) (args_list_sort _)))
  obtain ⟨ss', h1, h2, h3⟩ := sorted_out_str hS hp hs
  exact wpAny_pure ⟨_, rfl, h _ ss' h1 h2 h3⟩
end
section
variable {X : Cx}
def rSortT (K : Frag) : List V → Hp → VK → Prop := fun vs H Q => ∃ (a : Addr) (xs : List Str), vs = [V.ref a] ∧ SqT K H a (xs.map V.str) ∧ ∀ (ys : List Str) (p : Addr), ys.Perm xs → sortedS ys = true → H p = none → Q (.ref p) (upd H p (.lst (ys.map V.str)))
theorem cr_sortT : CallR X (.builtin "sorted") (rSortT X.K) := by
  intro pins s σ H vs us Q I r h
  obtain ⟨a, xs, rfl, hs, q⟩ := h
  obtain ⟨its, rv, ht, hz⟩ := I.tuple hs
  rw [Vals.ref1 r]
  have l0 := rv.length
  refine tup_sorted ht rv.strs (by rw [← l0]; exact hz) fun out ys h1 h2 h3 => ?_
  obtain ⟨ep, he⟩ := PyProof.Rows.sortedAll_at s.heap its out
  have hl : (ys.map V.str).length ≤ sizeLine := by rw [List.length_map, h2.length_eq, ← List.length_map (f := V.str)]; exact hz
  exact ⟨.ref _, upd H (s.heap.objs.size + 1) (.lst (ys.map V.str)), I.laid (t' := s.toks) (fun _ _ => PyProof.Rows.sortedAll_old) (Nat.le_succ _) ⟨hl, out.toList, ep, vals_of_strs h1, he⟩, rfl, q ys _ h2 h3 (I.hok.fresh (Nat.le_succ _))⟩
/-! ### len(set(t)) -/
def tLenSetT (K : Frag) (ta : TE) : TE := fun σ H Q => ta σ H fun x H1 => ∃ (l : Addr) (xs : List Str), x = V.ref l ∧ SqT K H1 l (xs.map V.str) ∧ xs.length ≤ 4000 ∧ Q (.int (ded xs).length) H1
theorem pe_lenSetT {a : Expr} {ta : TE} {p p2 q pos : Pos} (hc : X.calm = true) (hg : Gl X "len") (hm : X.mg "len" = none) (hg2 : Gl X "set") (hm2 : X.mg "set" = none) (ha : PE X a ta)
    (na : starEach [a] X.env = (false, eval a X.env) :: starEach [] X.env := by rfl) : PE X (.Call (.Name "len" p) [.Call (.Name "set" p2) [a] [] q] [] pos) (tLenSetT X.K ta) := by
  refine ⟨fun pins s σ H Q I h => ?_⟩
  refine Call_ (ld_blt I hg hm PySem.boot_len (PyProof.Rows.callWith_builtin1 (PyProof.Rows.args_cons (Call_ (ld_blt I hg2 hm2 PyProof.Rows.boot_set
    (PyProof.Rows.callWith_type1 (PyProof.Rows.args_cons (thn (ha.run pins s σ H _ I h) fun v s1 ⟨x, H1, I1, r1, q1⟩ => PyProof.Rows.args_nil ?_) na) na rfl))) rfl) rfl rfl))
  obtain ⟨l, xs, rfl, hq, hz, q1⟩ := q1
  cases r1
  obtain ⟨its, r, pt, _⟩ := I1.tuple hq
  refine call_set_texts (I1.ok.hd hc) pt (xs := xs) (by simpa using r.strs) (by unfold scanBound; omega) fun h' tk hS hk => PyProof.Rows.args_nil ?_
  obtain ⟨o, es, ep, t, ho, hex, hd, _, _, _, hf, hn⟩ := hS
  have I2 : Inv X pins σ H1 { s1 with heap := h', toks := tk } := I1.kept hk
  have le := ded_le xs
  refine call_len_set ho hex hd hf (by rw [hn]; omega) ⟨.int (ded xs).length, H1, I2.tok _, ⟨_, by rw [hn]⟩, q1⟩
/-! ### dicts of data, with the same keys -/
def SmD (d : PyData) : Prop := d.canLay0 = true ∧ d.depth ≤ 60
def rEqD (K : Frag) : R2 := fun x y H Q => ∃ (a b : Addr) (j1 j2 : Addr) (ys : List Key) (vs ws : List V) (ds es : List PyData), x = .ref a ∧ y = .ref b ∧ H a = some (.dK (ys.zip vs)) ∧ H b = some (.dK (ys.zip ws)) ∧ ys.Nodup ∧ vs.length = ys.length ∧ ws.length = ys.length ∧
  DxAll K H j1 vs ds ∧ DxAll K H j2 ws es ∧ (∀ d ∈ ds, SmD d) ∧ (∀ d ∈ es, SmD d) ∧ Q (.bl ((ds.zip es).all fun p => PyData.eqv p.1 p.2)) H
theorem hits_data {pins : List (Addr × Obj)} {σ : L2.St} {H : Hp} {s : Shared} {j1 j2 : Addr} {A : Around} (I : Inv X pins σ H s) (hu : A.units + 60 < cLine) {full : List (Key × V)} {vb : List (Key × Value)} (rb : KV full vb) :
    ∀ (ys : List Key) (vs ws : List V) (ds es : List PyData) (va : List (Key × Value)), vs.length = ys.length → ws.length = ys.length → KV (ys.zip vs) va → (∀ p ∈ ys.zip ws, valV full p.1 = some p.2) → DxAll X.K H j1 vs ds → DxAll X.K H j2 ws es →
      (∀ d ∈ ds, SmD d) → (∀ d ∈ es, SmD d) → PySem.W.KeqHits A s vb va ((ds.zip es).all fun p => PyData.eqv p.1 p.2)
  | [], vs, ws, ds, es, va, lv, lw, ra, _, hd, he, _, _ => by
    cases vs with
    | cons _ _ => exact nomatch lv
    | nil =>
      cases hd
      cases ra
      exact .nil
  | y :: ys, vs, ws, ds, es, va, lv, lw, ra, hf, hd, he, sd, se => by
    match vs, ws, lv, lw with
    | v :: vs, w :: ws, lv, lw =>
      match ra, hd, he with
      | .cons (b := q) (l₂ := qs) r1 r2, .cons (d := d) (ds := ds) h1 h2, .cons (d := e) (ds := es) g1 g2 =>
        obtain ⟨k, u⟩ := q
        obtain ⟨e1, rv⟩ := r1
        have e1' : y = k := e1
        subst e1'
        have rr : RelO (some w) (valueAt vb y) := by rw [← hf (y, w) List.mem_cons_self]; exact rb.val y
        obtain ⟨z, hz, rz⟩ := rr.some_of
        obtain ⟨as, k1⟩ := Dx.reads I d v u h1 rv
        obtain ⟨bs, k2⟩ := Dx.reads I e w z g1 rz
        obtain ⟨c1, c2⟩ := sd d List.mem_cons_self
        obtain ⟨c3, c4⟩ := se e List.mem_cons_self
        refine .hit hz (SeqAt.eqAt_reads d e A s u z as bs k1 k2 c1 c3 (by omega)) ?_
        exact hits_data I hu rb ys vs ws ds es qs (Nat.succ.inj lv) (Nat.succ.inj lw) r2 (fun p hp => hf p (List.mem_cons_of_mem _ hp)) h2 g2 (fun d hd => sd d (List.mem_cons_of_mem _ hd)) (fun d hd => se d (List.mem_cons_of_mem _ hd))
theorem op_eqD (hu : X.A.units + 64 < cLine) : OpR X (compareOp .Eq) (rEqD X.K) := by
  intro pins s σ H x y v u Q I rx ry h
  obtain ⟨a, b, j1, j2, ys, vs, ws, ds, es, rfl, rfl, ea, eb, nd, lv, lw, hd, he, sd, se, q⟩ := h
  obtain rfl : v = Value.ref a := rx
  obtain rfl : u = Value.ref b := ry
  obtain ⟨_, ya, va, ra, da⟩ := (show ObjOk X.prog X.w H s.heap a (.dK (ys.zip vs)) from I.hok a _ ea)
  obtain ⟨_, yb, vb, rb, db⟩ := (show ObjOk X.prog X.w H s.heap b (.dK (ys.zip ws)) from I.hok b _ eb)
  have hl : va.length = vb.length := by
    rw [← ra.length, ← rb.length, List.length_zip, List.length_zip, lv, lw]
  have nd2 : ((ys.zip ws).map (·.1)).Nodup := by
    rw [List.map_fst_zip (by omega)]
    exact nd
  exact PySem.W.keq_eq (knd := mixKind X.prog X.w) (r := (ds.zip es).all fun p => PyData.eqv p.1 p.2) ya yb da db (by omega) (fun _ => hits_data I (by show X.A.units + 1 + 60 < cLine; omega) rb ys vs ws ds es va lv lw ra (fun p hp => val_nodup nd2 p hp) hd he sd se) (fin_bl I q (by simp [hl]))
end
end Cv

/-! part B7 -/
set_option maxRecDepth 100000
set_option maxHeartbeats 4000000
namespace Cv
open PySem PySem.Spec PyProof.Rows L2
open PySem.W (Frag)
section
variable {X : Cx}
/-- y = {k: v for ..} -/
theorem ps_setDc {i : Nat} {y : Str} {py : Pos} {kx vx tg iter : Expr} {ifs : List Expr} {scope : Scope} {own : List (Str × Nat)} {pos spos : Pos} {wi : TI} {g : TG} {tt : TT} {tk tv : TE} (hc : X.calm = true) (hN : X.N.Nodup) (hy : X.N[i]? = some y) (hyl : X.env.scope.names.lookup y = some .local)
    (hw : swapsWith (.DictComp kx vx [⟨tg, iter, ifs, 0⟩] scope pos) (some (.Name y py)) spos.line X.env = pure true) (hi : PI X tg iter wi) (ok : BlkOk X.N X.env.scope scope own) (hg : ∀ (s : Shared) (H : Hp) (C : Addr) (cl : List (Str × Addr)) (fp : List Addr), PG (X.blk s H scope (compEnvC scope cl C X.env) fp) tg g)
    (ht : ∀ (s : Shared) (H : Hp) (C : Addr) (cl : List (Str × Addr)) (fp : List Addr), PTs (X.blk s H scope (compEnvC scope cl C X.env) fp) ifs tt) (hk : ∀ (s : Shared) (H : Hp) (C : Addr) (cl : List (Str × Addr)) (fp : List Addr), PE (X.blk s H scope (compEnvC scope cl C X.env) fp) kx tk)
    (he : ∀ (s : Shared) (H : Hp) (C : Addr) (cl : List (Str × Addr)) (fp : List Addr), PE (X.blk s H scope (compEnvC scope cl C X.env) fp) vx tv) (hs : ∀ x, foldedSetIterable iter X.env x = pure x := by intro _; rfl) : PS X (.Assign [.Name y py] (.DictComp kx vx [⟨tg, iter, ifs, 0⟩] scope pos) spos) (tAsg (tDc wi g tt tk tv (own.map (·.2))) (gName i)) := by
  refine ⟨fun pins s σ H D I h => ?_⟩
  rw [exec_Assign_Name_used _ _ _ _ hw]
  refine wpAny_bind (wpAny_standAt (wpAny_bind (show wpAny _ X.A (do let _ ← comprehension (.DictComp kx vx [⟨tg, iter, ifs, 0⟩] scope pos) scope X.env (firstIterPos [⟨tg, iter, ifs, 0⟩] pos) newDict false (eval iter X.env) (some (assign (.Name y py) X.env))) _ _ s from
    wpAny_bind (thn (dc_core (Qf := fun _ s' => SP X pins D .next s') hc hN I hi ok hg ht hk he hs (show tDc wi g tt tk tv (own.map (·.2)) σ H (fun x H1 => gName i x σ H1 D.nx) from h) fun L C s' m H' I' q hn f => ?_) fun _ s' q => wpAny_pure (wpAny_pure q)))))
  obtain ⟨f0, f1, f2, f3, f4, f5⟩ := f
  refine (wpAny_assign_Name (store_ok2 (v := V.ref L) I' hN hy (.inl hyl) rfl (fun s2 I2 ⟨a, sb, ha⟩ => ?_) (.inr hyl)) : wpAny _ _ (assign (.Name y py) X.env (.ref L)) _ _ _)
  have ne : C ≠ a := by
    rcases ha with z | z
    · rw [z]
      exact f1
    · exact fun e => f4 y a z e.symm
  exact ⟨m, hn.sameBut sb ne, fun h3 sb3 => ⟨_, H', I2.turned (t' := s2.toks) (fun b o hb e => (sb3.2 b hb).trans e) f0 f1 f3 f4 f5, q⟩⟩
theorem dsw_true {kx vx : Expr} {gs : List Comprehension} {scope : Scope} {pos py : Pos} {y : Str} {l : Nat} {env : Env} (hk : env.scope.kind = .function) (hy : env.scope.names.lookup y = some .local) (hl : (py.line == pos.line) = true)
    (ha : (scope.names.any fun (n, k) => n == y && (k == .local || k == .cell)) = false) : swapsWith (.DictComp kx vx gs scope pos) (some (.Name y py)) l env = pure true := by
  have k1 : env.kindOf y = some .local := hy
  have k2 : env.blockKind = .function := by unfold Env.blockKind; rw [hk]; rfl
  unfold swapsWith
  simp only [k2, k1, ha, Expr.pos, hl]
  rfl
end
end Cv

/-! part B8 -/
set_option maxRecDepth 100000
set_option maxHeartbeats 4000000
namespace Cv
open PySem PySem.Spec PyProof.Rows L2
open PySem.W (Frag)
/-! ### enumerate(t), t a tuple -/
theorem enum_new1 {v : Value} {o : Obj} {G : Heap → Prop} (B : Begins v o G) : Meets (Builtin.«enumerate.__new__» ⟨[.type "enumerate", v], []⟩) (fun _ R s => G s.heap ∧
      R (.ok (.ret (.ref (s.heap.push o).objs.size))) { s with heap := (s.heap.push o).push { cls := .type "enumerate", data := .fields #[.none, .bool false, .ref s.heap.objs.size, rawInt 0, .none, .none] } }) :=
  .of_wp fun prog w A R s h => by
    obtain ⟨hp, g, d, tk, os⟩ := s
    obtain ⟨h1, h⟩ := h
    have k1 := sub_enumerate
    have k2 : ∀ {A' : Around} {E : Value → Shared → Prop} {Q : Value → Shared → Prop}, Q (.ref hp.objs.size) ⟨hp.push o, g, d, tk, os⟩ → wpAny (model prog w) A' (pyIter v) Q E ⟨hp, g, d, tk, os⟩ := fun q => B.iter prog w _ _ ⟨hp, g, d, tk, os⟩ _ h1 q
    wp_walk using k2
    refine wpAny_stack_any fun st => wpAny_pure ?_
    split
    · rename_i c _ _ _ _ _
      cases (c == Value.type "enumerate") <;> (wp_walk using k2; exact ⟨_, rfl, h⟩)
    · wp_walk using k2
      exact ⟨_, rfl, h⟩
section
variable {prog : Program} {w : World} {A : Around} {E : Value → Shared → Prop} {s : Shared}
theorem enum_call1 {v : Value} {o : Obj} {G : Heap → Prop} {Q : Value → Shared → Prop} (B : Begins v o G) (h1 : G s.heap)
    (h : ∀ h', IsEnum h' (s.heap.objs.size + 1) s.heap.objs.size 0 .none → h'.get? s.heap.objs.size = some o → (∀ b o, s.heap.get? b = some o → h'.get? b = some o) → Q (.ref (s.heap.objs.size + 1)) { s with heap := h' }) : wpAny (model prog w) A (call (.type "enumerate") [v]) Q E s := by
  refine callType_new PySem.F.called_enumerate (by decide) (PySem.F.typeCall_enumerate_1 _) (PySem.F.newCall_enumerate_1 _) (fun obj => PySem.F.args_object_init_2 obj _) PySem.F.entry_enumerate_new (enum_new1 B) ⟨h1, ?_⟩
  have e1 : (s.heap.push o).objs.size = s.heap.objs.size + 1 := Heap.size_push ..
  show _ ∧ _
  rw [e1]
  have at1 : IsEnum ((s.heap.push o).push { cls := .type "enumerate", data := .fields #[.none, .bool false, .ref s.heap.objs.size, rawInt 0, .none, .none] }) (s.heap.objs.size + 1) s.heap.objs.size 0 .none := by
    have q := Heap.get?_push_size (s.heap.push o) (o := { cls := .type "enumerate", data := .fields #[.none, .bool false, .ref s.heap.objs.size, rawInt 0, .none, .none] }) rfl
    rw [e1] at q
    exact q
  exact ⟨⟨_, at1, rfl⟩, h _ at1 (Heap.get?_push_of_some _ (Heap.get?_push_size _ B.free)) fun b o x => Heap.get?_push_of_some _ (Heap.get?_push_of_some _ x)⟩
end
/-- the tuple at a, each item in a new pair with its place -/
def IteT (K : Frag) (a : Addr) (xs : List V) : It :=
  ⟨fun i H => SqT K H a xs ∧ i < xs.length, fun i H v H' => ∃ T x, v = .ref T ∧ H T = none ∧ H' = upd H T (.tup [.int (i : Nat), x]) ∧ xs[i]? = some x, fun i H => SqT K H a xs ∧ i = xs.length⟩
theorem turn_enumT {P : Program} {w : World} {K : Frag} {elts : List Expr} {kk : Nat} {tpos : Pos} {a e it : Addr} {xs : List V} (n1 : e ≠ it) (n2 : a ≠ it) (n3 : e ≠ a) :
    Turn P w K (.Tuple elts kk tpos) (IteT K a xs) [e, it] e (fun i h => (∃ old, IsEnum h e it ((i : Nat) : Int) old) ∧ h.IsTupleIter it a i) where
  mem := by simp
  obj := fun i h st b hb => by
    obtain ⟨⟨old, he⟩, ⟨o, ho, hc, hd⟩⟩ := st
    rcases List.mem_cons.mp hb with z | z
    · rw [z]; exact ⟨_, he, fun v q => nomatch q⟩
    · rw [List.mem_singleton.mp z]; exact ⟨o, ho, fun v q => by rw [hd] at q; cases q⟩
  keep := fun i h h' st k => let ⟨⟨old, he⟩, hi⟩ := st; ⟨⟨old, k e (by simp) _ he⟩, hi.at fun o q => k it (by simp) o q⟩
  item := by
    intro X hP hw hK hc i pins s σ H E I hf st hg
    subst hP hw hK
    obtain ⟨⟨old, he⟩, hit⟩ := st
    obtain ⟨hq, hlt⟩ := hg
    obtain ⟨its, rv, p, hz⟩ := I.tuple hq
    have hx : xs[i]? = some xs[i] := List.getElem?_eq_getElem hlt
    obtain ⟨u, hu, ru⟩ := rv.get hx
    have hel : e < s.heap.objs.size := Heap.lt_size he
    have hil : it < s.heap.objs.size := by obtain ⟨_, q, _⟩ := hit; exact Heap.lt_size q
    have hl : its.toArray.size = xs.length := by rw [List.size_toArray]; exact rv.length.symm
    have nm : e ∉ [it, a] := fun m => by
      rcases List.mem_cons.mp m with z | z
      · exact n1 z
      · exact n3 (List.mem_singleton.mp z)
    refine wpAny_pyNext_enum_itemD (Draws.tuple (A := X.A.in1) (I.ok.hd hc) it a n2 its.toArray) he ⟨hit, p⟩ (by rw [hl]; exact hlt) n1 nm fun u' h' tk hu' ho st' hT hsz hk => ?_
    have eu : u' = u := by
      have h2 : its.toArray[i]? = some u := by simpa using hu
      exact Option.some.inj (hu'.symm.trans h2)
    subst eu
    refine ⟨_, rfl, wpAny_letOwnedTupleGo_enum (s := { s with heap := h', toks := tk + 1 }) ho fun h'' he' sb => ?_⟩
    have hT2 : h''.get? s.heap.objs.size = some { cls := .type "tuple", data := .seq #[.int i tk, u'] } := (sb.2 _ (Nat.ne_of_gt hel)).trans hT
    have new : ObjOk X.prog X.w (upd H s.heap.objs.size (.tup [.int (i : Nat), xs[i]])) h'' s.heap.objs.size (.tup [.int (i : Nat), xs[i]]) := ⟨by show 2 ≤ sizeLine; decide, [.int i tk, u'], .cons ⟨_, rfl⟩ (.cons ru .nil), ⟨_, hT2, rfl, _, rfl⟩⟩
    have I1 : Inv X pins σ (upd H s.heap.objs.size (.tup [.int (i : Nat), xs[i]])) { s with heap := h'', toks := tk + 1 } :=
      I.turnedNew (ch := [e, it]) (fun b ob hb q => (sb.2 b (fun z => hb (by simp [z]))).trans (hk b ob (fun z => hb (by simp [z])) (fun z => hb (by simp [z])) q)) hf (Nat.le_refl _) new
    refine ⟨.ref s.heap.objs.size, _, I1, rfl, ⟨_, xs[i], rfl, I.hok.fresh (Nat.le_refl _), rfl, hx⟩, ⟨⟨u', ?_⟩, st'.1.at fun o q => (sb.2 it (Ne.symm n1)).trans q⟩, fun b hb => ?_⟩
    · have e1 : ((i + 1 : Nat) : Int) = (i : Int) + 1 := by omega
      rw [e1]; exact he'
    · have lb : b < s.heap.objs.size := by
        rcases List.mem_cons.mp hb with z | z
        · rw [z]; exact hel
        · rw [List.mem_singleton.mp z]; exact hil
      rw [upd_ne (Nat.ne_of_lt lb)]
      exact (hf b hb).1
  done := by
    intro X hP hw hK hc i pins s σ H E I hf st hg
    subst hP hw hK
    obtain ⟨⟨old, he⟩, hit⟩ := st
    obtain ⟨hq, rfl⟩ := hg
    obtain ⟨its, rv, p, hz⟩ := I.tuple hq
    have hl : its.toArray.size = xs.length := by rw [List.size_toArray]; exact rv.length.symm
    obtain ⟨f0, f1, f2, f3, f4, f5⟩ := hf it (by simp)
    refine wpAny_pyNext_enum_endD (Draws.tuple (A := X.A.in1) (I.ok.hd hc) it a n2 its.toArray) he (by rw [hl]; exact ⟨hit, p⟩) fun h' eb => ⟨rfl, I.turned (t' := s.toks) (fun b o hb q => eb b o hb q) f0 f1 f3 f4 f5⟩
  self := fun A i s Q E st h => let ⟨⟨_, he⟩, _⟩ := st; wpAny_pyIter_enum he h
def iEnumT (K : Frag) (ta : TA) : TI := fun σ H R => ta σ H fun vs H1 => ∃ a xs, vs = [.ref a] ∧ SqT K H1 a xs ∧ R (IteT K a xs) H1
theorem pi_enumT {X : Cx} {e : Expr} {ta : TA} {p pos tpos : Pos} {elts : List Expr} {kk : Nat} (hg : Gl X "enumerate") (hm : X.mg "enumerate" = none) (ha : PA X [e] ta) (hs : starEach [e] X.env = [(false, eval e X.env)] := by rfl) :
    PI X (.Tuple elts kk tpos) (.Call (.Name "enumerate" p) [e] [] pos) (iEnumT X.K ta) := by
  refine ⟨fun pins s σ H R I h => ?_⟩
  refine Call_ (ld_blt I hg hm boot_enumerate (PyProof.Rows.callWith_type1 (thn (ha.run pos pins s σ H _ I h) fun us s1 ⟨vs, H1, I1, r1, q1⟩ => ?_) hs rfl))
  obtain ⟨a, xs, rfl, hq, q⟩ := q1
  rw [Vals.ref1 r1]
  obtain ⟨its, rv, p', hz⟩ := I1.tuple hq
  have la : a < s1.heap.objs.size := by obtain ⟨o, e, _⟩ := p'; exact Heap.lt_size e
  refine enum_call1 (begins_tuple a its.toArray) p' fun h' he hit hk => wpAny_pyIter_enum he ?_
  have I2 : Inv X pins σ H1 { s1 with heap := h' } := I1.kept (t' := s1.toks) hk
  refine ⟨s1.heap.objs.size + 1, [s1.heap.objs.size + 1, s1.heap.objs.size], _, _, H1, rfl, I2, turn_enumT (Nat.succ_ne_self _) (Nat.ne_of_lt la) (Nat.ne_of_gt (Nat.lt_succ_of_lt la)), ⟨⟨.none, he⟩, ⟨_, hit, rfl, rfl⟩⟩, fun b hb => ?_, q⟩
  have le : s1.heap.objs.size ≤ b := by
    rcases List.mem_cons.mp hb with z | z
    · rw [z]; exact Nat.le_add_right _ _
    · rw [List.mem_singleton.mp z]; exact Nat.le_refl _
  exact I1.fpOk le (I1.hok.fresh le)
theorem walk_enumT {K : Frag} {a : Addr} {xs : List V} : Walk (IteT K a xs) xs.length (fun H => SqT K H a xs) (fun i H v H' => ∃ T x, v = .ref T ∧ H T = none ∧ H' = upd H T (.tup [.int (i : Nat), x]) ∧ xs[i]? = some x) :=
  ⟨fun i H hi q => ⟨q, hi⟩, fun H q => ⟨q, rfl⟩, fun i H x H' hi q y => y⟩
end Cv

/-! part B9 -/
set_option maxRecDepth 100000
set_option maxHeartbeats 4000000
namespace Cv
open PySem PySem.Spec PyProof.Rows L2
open PySem.W (Frag)
/-! ### zip(t, l), t a tuple, l a list -/
def ItzM (K : Frag) (a b : Addr) (xs ys : List V) : It :=
  ⟨fun i H => SqT K H a xs ∧ SqL K H b ys ∧ i < xs.length ∧ i < ys.length, fun i H v H' => ∃ T x y, v = .ref T ∧ H T = none ∧ H' = upd H T (.tup [x, y]) ∧ xs[i]? = some x ∧ ys[i]? = some y,
    fun i H => SqT K H a xs ∧ SqL K H b ys ∧ i ≤ xs.length ∧ i ≤ ys.length ∧ (i = xs.length ∨ i = ys.length)⟩
theorem turn_zipM {P : Program} {w : World} {K : Frag} {elts : List Expr} {kk : Nat} {tpos : Pos} {a b z TI TO i1 i2 : Addr} {xs ys : List V} (S : ZipSep2 z TI TO i1 i2 [i1, a] [i2, b]) (m1 : a ≠ i1) (m2 : b ≠ i2) :
    Turn P w K (.Tuple elts kk tpos) (ItzM K a b xs ys) [z, TI, TO, i1, i2] z (fun i h => IsZip h z TI TO .none ∧ IsTupOf2 h TI (.ref i1) (.ref i2) ∧ (∃ x y, IsTupOf2 h TO x y) ∧ h.IsTupleIter i1 a i ∧ h.IsListIter i2 b i) where
  mem := by simp
  obj := fun i h st c hc => by
    obtain ⟨hz, hTI, ⟨x, y, hTO⟩, ⟨o1, e1, _, d1⟩, ⟨o2, e2, _, d2⟩⟩ := st
    have e' : c = z ∨ c = TI ∨ c = TO ∨ c = i1 ∨ c = i2 := by simpa using hc
    rcases e' with q | q | q | q | q
    · rw [q]; exact ⟨_, hz, fun v q => nomatch q⟩
    · rw [q]; exact ⟨_, hTI, fun v q => nomatch q⟩
    · rw [q]; exact ⟨_, hTO, fun v q => nomatch q⟩
    · rw [q]; exact ⟨o1, e1, fun v q => by rw [d1] at q; cases q⟩
    · rw [q]; exact ⟨o2, e2, fun v q => by rw [d2] at q; cases q⟩
  keep := fun i h h' st k => by
    obtain ⟨hz, hTI, ⟨x, y, hTO⟩, h1, h2⟩ := st
    exact ⟨k z (by simp) _ hz, k TI (by simp) _ hTI, ⟨x, y, k TO (by simp) _ hTO⟩, h1.at fun o q => k i1 (by simp) o q, h2.at fun o q => k i2 (by simp) o q⟩
  item := by
    intro X hP hw hK hc i pins s σ H E I hf st hg
    subst hP hw hK
    obtain ⟨hz, hTI, ⟨x0, y0, hTO⟩, h1, h2⟩ := st
    obtain ⟨hqx, hqy, lx, ly⟩ := hg
    obtain ⟨its, rv, p, _⟩ := I.tuple hqx
    obtain ⟨its2, rv2, p2, _⟩ := I.list hqy
    have hx : xs[i]? = some xs[i] := List.getElem?_eq_getElem lx
    have hy : ys[i]? = some ys[i] := List.getElem?_eq_getElem ly
    obtain ⟨u, hu, ru⟩ := rv.get hx
    obtain ⟨u2, hu2, ru2⟩ := rv2.get hy
    have k1 : its.toArray.size = xs.length := by rw [List.size_toArray]; exact rv.length.symm
    have k2 : its2.toArray.size = ys.length := by rw [List.size_toArray]; exact rv2.length.symm
    have hzl : z < s.heap.objs.size := Heap.lt_size hz
    refine wpAny_pyNext_zipD2_item S (Draws.tuple (A := X.A.in1) (I.ok.hd hc) i1 a m1 its.toArray) (Draws.list (A := X.A.in1) (I.ok.hd hc) i2 b m2 its2.toArray) hz hTI hTO ⟨h1, p⟩ ⟨h2, p2.isList⟩ (by rw [k1]; exact lx) (by rw [k2]; exact ly) fun v v2 h' tk hv hv2 z' TO' st1 st2 hT hsz hk => ?_
    have ev : v = u := by
      have q : its.toArray[i]? = some u := by simpa using hu
      exact Option.some.inj (hv.symm.trans q)
    have ev2 : v2 = u2 := by
      have q : its2.toArray[i]? = some u2 := by simpa using hu2
      exact Option.some.inj (hv2.symm.trans q)
    subst ev ev2
    refine ⟨_, rfl, wpAny_letOwnedTupleGo_zip (s := { s with heap := h', toks := tk }) z' fun h'' z'' sb => ?_⟩
    have hT2 : h''.get? s.heap.objs.size = some { cls := .type "tuple", data := .seq #[v, v2] } := (sb.2 _ (Nat.ne_of_gt hzl)).trans hT
    have new : ObjOk X.prog X.w (upd H s.heap.objs.size (.tup [xs[i], ys[i]])) h'' s.heap.objs.size (.tup [xs[i], ys[i]]) := ⟨by show 2 ≤ sizeLine; decide, [v, v2], .cons ru (.cons ru2 .nil), ⟨_, hT2, rfl, _, rfl⟩⟩
    have I1 : Inv X pins σ (upd H s.heap.objs.size (.tup [xs[i], ys[i]])) { s with heap := h'', toks := tk } :=
      I.turnedNew (ch := [z, TI, TO, i1, i2]) (fun c o hb q => (sb.2 c (fun q' => hb (by simp [q']))).trans (hk c o (fun q' => hb (by simp [q'])) (fun q' => hb (by simp [q'])) (fun q' => hb (by simp [q'])) (fun q' => hb (by simp [q'])) q)) hf (Nat.le_refl _) new
    refine ⟨.ref s.heap.objs.size, _, I1, rfl, ⟨_, xs[i], ys[i], rfl, I.hok.fresh (Nat.le_refl _), rfl, hx, hy⟩, ⟨z'', ?_, ⟨v, v2, ?_⟩, ?_, ?_⟩, fun c hcm => ?_⟩
    · exact (sb.2 _ S.TIz).trans (hk _ _ S.TIz S.TITO S.TIi1 S.TIi2 hTI)
    · exact (sb.2 _ S.TOz).trans TO'
    · exact st1.1.at fun o q => (sb.2 _ S.zi1.symm).trans q
    · exact st2.1.at fun o q => (sb.2 _ S.zi2.symm).trans q
    · have hlt : c < s.heap.objs.size := by
        have e' : c = z ∨ c = TI ∨ c = TO ∨ c = i1 ∨ c = i2 := by simpa using hcm
        rcases e' with q | q | q | q | q
        · rw [q]; exact hzl
        · rw [q]; exact Heap.lt_size hTI
        · rw [q]; exact Heap.lt_size hTO
        · rw [q]; obtain ⟨_, e1, _⟩ := h1; exact Heap.lt_size e1
        · rw [q]; obtain ⟨_, e2, _⟩ := h2; exact Heap.lt_size e2
      rw [upd_ne (Nat.ne_of_lt hlt)]
      exact (hf c hcm).1
  done := by
    intro X hP hw hK hc i pins s σ H E I hf st hg
    subst hP hw hK
    obtain ⟨hz, hTI, ⟨x0, y0, hTO⟩, h1, h2⟩ := st
    obtain ⟨hqx, hqy, lx, ly, le⟩ := hg
    obtain ⟨its, rv, p, _⟩ := I.tuple hqx
    obtain ⟨its2, rv2, p2, _⟩ := I.list hqy
    have k1 : its.toArray.size = xs.length := by rw [List.size_toArray]; exact rv.length.symm
    have k2 : its2.toArray.size = ys.length := by rw [List.size_toArray]; exact rv2.length.symm
    refine wpAny_pyNext_zipD2_end S (Draws.tuple (A := X.A.in1) (I.ok.hd hc) i1 a m1 its.toArray) (Draws.list (A := X.A.in1) (I.ok.hd hc) i2 b m2 its2.toArray) hz hTI hTO ⟨h1, p⟩ ⟨h2, p2.isList⟩ (by rw [k1]; exact lx) (by rw [k2]; exact ly) (by rw [k1, k2]; exact le) fun h' tk hk => ⟨rfl, ?_⟩
    exact I.turnedL (ch := [z, TI, TO, i1, i2]) (fun c o hb q => hk c o (fun q' => hb (by simp [q'])) (fun q' => hb (by simp [q'])) (fun q' => hb (by simp [q'])) (fun q' => hb (by simp [q'])) q) hf
  self := fun A i s Q E st h => wpAny_pyIter_zip st.1 h
def iZipM (K : Frag) (ta : TA) : TI := fun σ H R => ta σ H fun vs H1 => ∃ a b xs ys, vs = [.ref a, .ref b] ∧ SqT K H1 a xs ∧ SqL K H1 b ys ∧ R (ItzM K a b xs ys) H1
theorem pi_zipM {X : Cx} {e e2 : Expr} {ta : TA} {p pos tpos : Pos} {elts : List Expr} {kk : Nat} (hg : Gl X "zip") (hm : X.mg "zip" = none) (ha : PA X [e, e2] ta)
    (hs : starEach [e, e2] X.env = (false, eval e X.env) :: starEach [e2] X.env := by rfl) (hpl : (backTo pos (starEach [e2] X.env)).any (·.1) = false := by rfl) : PI X (.Tuple elts kk tpos) (.Call (.Name "zip" p) [e, e2] [] pos) (iZipM X.K ta) := by
  refine ⟨fun pins s σ H R I h => ?_⟩
  refine Call_ (ld_blt I hg hm PyProof.Rows.boot_zip (PyProof.Rows.callWith_type1 (thn (ha.run pos pins s σ H _ I h) fun us s1 ⟨vs, H1, I1, r1, q1⟩ => ?_) hs hpl))
  obtain ⟨a, b, xs, ys, rfl, hqx, hqy, q⟩ := q1
  cases r1 with
  | cons r rr =>
    cases rr with
    | cons r' rr =>
      cases rr
      cases r
      cases r'
      obtain ⟨its, rv, p1, _⟩ := I1.tuple hqx
      obtain ⟨its2, rv2, p2, _⟩ := I1.list hqy
      have la : a < s1.heap.objs.size := by obtain ⟨o, e, _⟩ := p1; exact Heap.lt_size e
      have lb : b < s1.heap.objs.size := by obtain ⟨o, e, _⟩ := p2.isList; exact Heap.lt_size e
      have fresh5 : ∀ c, c ∈ [s1.heap.objs.size + 4, s1.heap.objs.size + 2, s1.heap.objs.size + 3, s1.heap.objs.size, s1.heap.objs.size + 1] → FpOk X pins H1 c := fun c hcm => by
        have hle : s1.heap.objs.size ≤ c := by
          simp only [List.mem_cons, List.not_mem_nil, or_false] at hcm
          rcases hcm with z | z | z | z | z
          · rw [z]; exact Nat.le_add_right _ _
          · rw [z]; exact Nat.le_add_right _ _
          · rw [z]; exact Nat.le_add_right _ _
          · rw [z]; exact Nat.le_refl _
          · rw [z]; exact Nat.le_add_right _ _
        exact I1.fpOk hle (I1.hok.fresh hle)
      have S := zip_sep2 (N := s1.heap.objs.size) (fp1 := [a]) (fp2 := [b]) (fun c hc => by rw [List.mem_singleton.mp hc]; exact la) (fun c hc => by rw [List.mem_singleton.mp hc]; exact lb)
      refine zip_begins2 (begins_tuple a its.toArray) (begins_list b its2.toArray) p1 p2.isList fun h' hz hTI hTO h1 h2 hsz hk => ?_
      have I2 : Inv X pins σ H1 { s1 with heap := h' } := I1.kept (t' := s1.toks) hk
      refine wpAny_pyIter_zip hz ?_
      have T : Turn X.prog X.w X.K (.Tuple elts kk tpos) (ItzM X.K a b xs ys) [s1.heap.objs.size + 4, s1.heap.objs.size + 2, s1.heap.objs.size + 3, s1.heap.objs.size, s1.heap.objs.size + 1] (s1.heap.objs.size + 4) _ := turn_zipM S (Nat.ne_of_lt la) (Nat.ne_of_lt (Nat.lt_succ_of_lt lb))
      refine ⟨s1.heap.objs.size + 4, _, _, _, H1, rfl, I2, T, ?_, fresh5, q⟩
      have t1 : h'.IsTupleIter s1.heap.objs.size a 0 := ⟨_, h1, rfl, rfl⟩
      have t2 : h'.IsListIter (s1.heap.objs.size + 1) b 0 := ⟨_, h2, rfl, rfl⟩
      exact ⟨hz, hTI, ⟨.none, .none, hTO⟩, t1, t2⟩
theorem walk_zipM {K : Frag} {a b : Addr} {xs ys : List V} {n : Nat} (hx : xs.length = n) (hy : ys.length = n) : Walk (ItzM K a b xs ys) n (fun H => SqT K H a xs ∧ SqL K H b ys) (fun i H v H' => ∃ T x y, v = .ref T ∧ H T = none ∧ H' = upd H T (.tup [x, y]) ∧ xs[i]? = some x ∧ ys[i]? = some y) :=
  ⟨fun i H hi q => ⟨q.1, q.2, by omega, by omega⟩, fun H q => ⟨q.1, q.2, by omega, by omega, .inl hx.symm⟩, fun i H x H' hi q y => y⟩
end Cv

/-! part B10 -/
set_option maxRecDepth 100000
set_option maxHeartbeats 4000000
namespace Cv
open PySem PySem.Spec PyProof.Rows L2
open PySem.W (Frag)
open PySem.Froz (SD sObj TxOk addTx tailTx add_ok add_x)
/-! ### sets of texts whose places are known, and sorted(set(xs)) -/
/-- the set at a holds the texts l, and it can be walked -/
structure SX (P : Program) (w : World) (h : Heap) (a : Addr) (l : List Str) : Prop where
  ex : ∃ D : SD, h.get? a = some (sObj "set" D) ∧ TxOk P w D l ∧ Ris D.2.2.place.toList ∧ (w.params.followText "set-order" = true ∨ D.2.2.led = true)
theorem SX.keep {P : Program} {w : World} {h h' : Heap} {a : Addr} {l : List Str} (S : SX P w h a l) (k : ∀ o, h.get? a = some o → h'.get? a = some o) : SX P w h' a l := by
  obtain ⟨D, h1, r⟩ := S.ex
  exact ⟨D, k _ h1, r⟩
theorem addTx_walk {h : Int} {v : Value} {D : SD} (r : Ris D.2.2.place.toList) : Ris (addTx h v D).2.2.place.toList ∧ (addTx h v D).2.2.led = D.2.2.led := by
  have r1 := layNew_ris D.2.2 D.1 h v r
  have l1 := layNew_led D.2.2 D.1 h v
  unfold addTx
  generalize layNew D.2.2 D.1 h v = Z at r1 l1 ⊢
  obtain ⟨es1, t1, wd, gv⟩ := Z
  dsimp only at r1 l1 ⊢
  have r2 : Ris (if t1.plain = true then { t1 with plain := false } else t1).place.toList ∧ (if t1.plain = true then { t1 with plain := false } else t1).led = D.2.2.led := by
    by_cases c : t1.plain = true
    · rw [if_pos c]; exact ⟨r1, l1⟩
    · rw [if_neg c]; exact ⟨r1, l1⟩
  generalize (if t1.plain = true then { t1 with plain := false } else t1) = t2 at r2 ⊢
  unfold tailTx
  by_cases c : (!wd && t2.tooFull) = true
  · rw [if_pos c]
    exact ⟨relayAll_ris _ _ _, (relayAll_led _ _ _).trans r2.2⟩
  · rw [if_neg c]
    exact r2
section
variable {prog : Program} {w : World} {A : Around} {E : Value → Shared → Prop} {s : Shared}
theorem sx_new {a : Addr} {l : List Str} {k : Str} {u : Tok} {Q : Bool → Shared → Prop} (S : SX prog w s.heap a l) (hk : k ∉ l) (hb : l.length + 1 < scanBound)
    (q : ∀ h', Heap.SameBut a s.heap h' → SX prog w h' a (k :: l) → Q true { s with heap := h' }) : wpAny (model prog w) A (setAddHashed a (.str k u) (hashStr w k)) Q E s := by
  obtain ⟨D, hg, F, r, hl⟩ := S.ex
  obtain ⟨r2, l2⟩ := addTx_walk (h := hashStr w k) (v := .str k u) r
  refine add_x hg F hk hb (q _ (Heap.SameBut.update _ _ _) ⟨_, PySem.Froz.get_upd _ hg rfl, add_ok u F, r2, ?_⟩)
  rcases hl with hl | hl
  · exact .inl hl
  · exact .inr (l2.trans hl)
theorem sx_old {a : Addr} {l : List Str} {k : Str} {u : Tok} {Q : Bool → Shared → Prop} (S : SX prog w s.heap a l) (hk : k ∈ l) (hb : l.length < scanBound) (q : Q false s) : wpAny (model prog w) A (setAddHashed a (.str k u) (hashStr w k)) Q E s := by
  obtain ⟨⟨es, ep, t⟩, hg, F, r, hl⟩ := S.ex
  have el : ElemsOf (strKind prog w) es.toList := F.el
  have sz : es.size = l.length := F.sz
  have bd : es.size < scanBound := by rw [sz]; exact hb
  have ft : t.fits es.size = true := F.fit
  have dt : (sObj "set" (es, ep, t)).data = .set es ep t := rfl
  have ik : (strKind prog w).is k (.str k u) = true := PySem.Froz.is_str k u
  obtain ⟨j, hj⟩ : ∃ j, es.toList.findIdx? (fun e => (strKind prog w).is k e.2) = some j := by
    obtain ⟨e, he, q⟩ := (F.mem k).mp hk
    cases c : es.toList.findIdx? (fun e => (strKind prog w).is k e.2) with
    | some j => exact ⟨j, rfl⟩
    | none =>
      have := List.findIdx?_eq_none_iff.mp c e he
      rw [q] at this
      cases this
  unfold setAddHashed setAddHashedIn
  refine wpAny_holding (wpAny_bind (wpAny_setState_of hg dt ft ?_))
  dsimp only
  rw [byScan_of rfl bd el, if_pos rfl]
  unfold setAddByScan
  refine wpAny_bind (wpAny_bind (wpAny_rule (wpAny_bind (wpAny_setScan_of (knd := strKind prog w) (k := k) ik hg dt ft el ?_))))
  rw [hj]
  exact wpAny_pure (wpAny_pure q)
/-- the loop that puts one text after the other into the set -/
theorem sx_many {R : Result → Shared → Prop} {I : Addr} {fp wr : List Addr} {G : Array GenState → Array GenState → Prop} {Pv : Nat → Value → Prop} {St : Nat → Shared → Prop} {xs : List Str} (W : WalksS prog w A.in1 I fp wr G xs.length Pv St) {S : Addr} (hSf : S ∉ fp)
    (hv : ∀ i v, Pv i v → ∃ x t, xs[i]? = some x ∧ v = .str x t) (hb : xs.length + 1 < scanBound) : ∀ (k i : Nat) (s : Shared) (l : List Str), i + k = xs.length → St i s → SX prog w s.heap S l → l.Nodup → (∀ y, y ∈ l ↔ y ∈ xs.take i) → l.length ≤ i →
      (∀ s' l', Moved (S :: wr) G s s' → SX prog w s'.heap S l' → l'.Nodup → (∀ y, y ∈ l' ↔ y ∈ xs) → l'.length ≤ xs.length → R (.ok (.ret .none)) s') → codeAny (model prog w) A (.builtin "set.update.loop" ⟨[.ref S, .ref I], []⟩) R s := by
  have out : S ∉ wr := fun m => hSf (W.sub _ m)
  have wide : ∀ b ∈ wr, b ∈ S :: wr := fun b m => List.mem_cons_of_mem _ m
  intro k
  induction k with
  | zero =>
    intro i s l hi st hS nd hm ll fin
    have e : i = xs.length := hi
    subst e
    refine codeAny_builtin PyProof.Rows.F.entry_set_update_loop ?_
    rw [Around.under_plainId PyProof.Rows.F.plain_set_update_loop _]
    refine wpAny_bind (m := pyNext (.ref I)) (W.done s _ _ st fun s' m => ?_)
    rw [List.take_length] at hm
    exact wpAny_pure (fin s' l (m.mono wide) (hS.keep fun o e => m.heap S o out e) nd hm ll)
  | succ k ih =>
    intro i s l hi st hS nd hm ll fin
    refine codeAny_builtin PyProof.Rows.F.entry_set_update_loop ?_
    rw [Around.under_plainId PyProof.Rows.F.plain_set_update_loop _]
    refine wpAny_bind (m := pyNext (.ref I)) (W.item i s _ _ (by omega) st fun v s' p st' m => ?_)
    obtain ⟨x, t, hx, rfl⟩ := hv i v p
    have hS' : SX prog w s'.heap S l := hS.keep fun o e => m.heap S o out e
    have e1 : xs.take (i + 1) = xs.take i ++ [x] := by rw [List.take_add_one, hx]; rfl
    refine wpAny_bind (m := holding [Value.str x t] (setAdd S (.str x t))) (wpAny_holding (wpAny_holding (wpAny_bind ((strKind prog w).pyHash (k := x) (strKind_is _ _ _ _) ?_))))
    have next : ∀ (h' : Heap) (l' : List Str), Heap.SameBut S s'.heap h' → SX prog w h' S l' → l'.Nodup → (∀ y, y ∈ l' ↔ y ∈ xs.take (i + 1)) → l'.length ≤ i + 1 →
        codeAny (model prog w) A (.builtin "set.update.loop" ⟨[.ref S, .ref I], []⟩) R { s' with heap := h', toks := s'.toks + 1 } := fun h' l' sb hS2 nd' hm' ll' => by
      refine ih (i + 1) _ l' (by omega) (W.frame _ s' _ _ st' (Nat.le_succ _) fun b m2 o e => (sb.2 b fun z => hSf (z ▸ m2)).trans e) hS2 nd' hm' ll' fun s2 l2 m2 hS4 n4 h4 l4 => ?_
      exact fin s2 l2 (Moved.trans W.gtrans ((m.mono wide).then_heap (Nat.le_succ _) fun b o z e => (sb.2 b fun y => z (y ▸ List.mem_cons_self)).trans e) m2) hS4 n4 h4 l4
    by_cases c : x ∈ l
    · refine sx_old (s := { s' with toks := s'.toks + 1 }) hS' c (by omega) ?_
      refine wpAny_pure ⟨plainId_quiet PyProof.Rows.F.plain_set_update_loop _, next s'.heap l (Heap.SameBut.refl _ _) hS' nd (fun y => ?_) (by omega)⟩
      rw [e1, List.mem_append, hm y]
      exact ⟨.inl, fun z => z.elim id fun z => by rw [List.mem_singleton.mp z]; exact (hm x).mp c⟩
    · refine sx_new (s := { s' with toks := s'.toks + 1 }) hS' c (by omega) fun h' sb hS2 => ?_
      refine wpAny_pure ⟨plainId_quiet PyProof.Rows.F.plain_set_update_loop _, next h' (x :: l) sb hS2 (List.nodup_cons.mpr ⟨c, nd⟩) (fun y => ?_) (by simpa using ll)⟩
      rw [e1, List.mem_append, List.mem_cons, hm y, List.mem_singleton]
      exact Or.comm
abbrev setOn (w : World) : Obj := { cls := .type "set", dict := none, data := .set #[] 0 (.fresh 0 0 (!w.params.followText "set-order")) }
theorem sx_start {h : Heap} {a : Addr} (e : h.get? a = some (setOn w)) : SX prog w h a [] := by
  refine ⟨(#[], 0, .fresh 0 0 (!w.params.followText "set-order")), e, .nil rfl, List.Pairwise.nil, ?_⟩
  cases w.params.followText "set-order"
  · exact .inr rfl
  · exact .inl rfl
theorem sx_open {v : Value} {Q : Value → Shared → Prop} (h : wpAny (model prog w) A.in1.in1 (Builtin.«set.__init__» ⟨[.ref s.heap.objs.size, v], []⟩)
      (fun fin s' => match fin with | .done f => wants (fun r s₂ => r = .none ∧ Q (.ref s.heap.objs.size) s₂) E (.ok f) s' | .again c' => c'.quiet = true ∧ codeAny (model prog w) A.in1 c' (wants (fun r s₂ => r = .none ∧ Q (.ref s.heap.objs.size) s₂) E) s')
      (fun e s' => wants (fun r s₂ => r = .none ∧ Q (.ref s.heap.objs.size) s₂) E (.error e) s') { s with heap := s.heap.push (setOn w) }) : wpAny (model prog w) A (call (.type "set") [v]) Q E s := by
  obtain ⟨c, tl, hmro⟩ := PySem.F.called_set.mro
  have k1 := PySem.F.called_set.made
  have k2 := PySem.F.called_set.sub
  refine wpAny_call (codeAny_of_tree (show wpAny _ _ (callAny (.type "set") _) _ _ _ from wpAny_pure ⟨Code.quiet_builtin _ (by decide +kernel), codeAny_builtin PySem.F.entry_type_call ?_⟩))
  rw [Around.under_plain (weight_type_call_type "set" [v] []) rfl]
  have k3 := PySem.F.called_set.notType
  have k4 := PySem.F.called_set.canCreate
  have k5 := PySem.F.typeCall_set_1 v
  repeat (any_goals (first | assumption | wp_step))
  refine codeAny_mono (code_set_led1 v (E := E) (Q₁ := fun obj s₁ => obj = .ref s.heap.objs.size ∧ s₁ = { s with heap := s.heap.push (setOn w) }) ⟨rfl, rfl⟩) fun r s₁ hr => ?_
  match r, hr with
  | .error e, hr => exact hr
  | .ok (.ret obj), hr =>
    obtain ⟨rfl, rfl⟩ := hr
    have hT : Shared.TypeIs { s with heap := s.heap.push (setOn w) } (.ref s.heap.objs.size) "set" := ⟨_, Heap.get?_push_size _ rfl, rfl⟩
    have k6 := PySem.F.called_set.init.lookup
    have k7 := PySem.F.called_set.init.bind (.ref s.heap.objs.size)
    repeat (any_goals (first | assumption | wp_step))
    refine codeAny_mono (codeAny_call_builtin (R := wants (fun r s₂ => r = .none ∧ Q (.ref s.heap.objs.size) s₂) E) PySem.F.called_set.init.plain PySem.F.entry_set_init (check_set_init_1 hT h)) fun r₂ s₂ hr₂ => ?_
    match r₂, hr₂ with
    | .error e, hr₂ => exact hr₂
    | .ok (.ret r), hr₂ =>
      obtain ⟨rfl, q⟩ := hr₂
      repeat (any_goals (first | assumption | wp_step))
/-- set(t), t a tuple or a list of texts -/
theorem sx_of {l : Addr} {items : Array Value} {xs : List Str} {Q : Value → Shared → Prop} (hh : A.handled = none) (hl : s.heap.IsTuple l items ∨ s.heap.IsList l items) (hi : StrsAre items.toList xs) (hb : xs.length + 1 < scanBound)
    (h : ∀ (h' : Heap) (tk : Nat) (ys : List Str), SX prog w h' s.heap.objs.size ys → ys.Nodup → (∀ y, y ∈ ys ↔ y ∈ xs) → ys.length ≤ xs.length → (∀ b o, s.heap.get? b = some o → h'.get? b = some o) → Q (.ref s.heap.objs.size) { s with heap := h', toks := tk }) : wpAny (model prog w) A (call (.type "set") [.ref l]) Q E s := by
  refine sx_open ?_
  have hsz : items.size = xs.length := by rw [← StrsAre.len_eq hi, Array.length_toList]
  have e1 : (s.heap.push (setOn w)).objs.size = s.heap.objs.size + 1 := Heap.size_push ..
  have hT : Shared.TypeIs { s with heap := s.heap.push (setOn w) } (.ref s.heap.objs.size) "set" := ⟨_, Heap.get?_push_size _ rfl, rfl⟩
  have hS : (s.heap.push (setOn w)).get? s.heap.objs.size = some (setOn w) := Heap.get?_push_size _ rfl
  have hh3 : A.in1.in1.in1.handled = none := by simp [hh]
  have at_ : ∀ (i : Nat) (v : Value), items[i]? = some v → ∃ x t, xs[i]? = some x ∧ v = Value.str x t := fun i v p => by
    have hil : i < xs.length := by rw [← hsz]; exact (Array.getElem?_eq_some_iff.mp p).1
    obtain ⟨t, e⟩ := SS.strs_at hi i v (by rw [Array.getElem?_toList]; exact p)
    refine ⟨xs[i], t, List.getElem?_eq_getElem hil, ?_⟩
    rw [e, List.getD_eq_getElem?_getD, List.getElem?_eq_getElem hil]
    rfl
  rcases hl with hl | hl
  · obtain ⟨⟨oc, od, oda, osl⟩, hol, hcl, nl, hdl⟩ := hl
    simp only at hcl hdl
    subst hcl hdl
    have ltl : l < s.heap.objs.size := Heap.lt_size hol
    have hol' : (s.heap.push (setOn w)).get? l = some { cls := .type "tuple", dict := od, data := .seq items nl, slots := osl } := Heap.get?_push_of_some _ hol
    have hl1 : (s.heap.push (setOn w)).IsTuple l items := ⟨_, hol', rfl, nl, rfl⟩
    have k8 := PySem.F.sub_tuple_set
    have k9 := PySem.F.sub_tuple_frozenset
    have k10 : (Value.type "tuple" == Value.type "dict") = false := by decide
    unfold Builtin.«set.__init__» noKeywords Builtin.Frozenset.updateFrom
    generalize hPI : pyIter = PI
    wp_walk
    subst hPI
    have hout : s.heap.objs.size ∉ [(s.heap.push (setOn w)).objs.size, l] := by
      rw [e1]
      intro m
      rcases List.mem_cons.mp m with z | z
      · exact Nat.ne_of_lt (Nat.lt_succ_self _) z
      · exact Nat.ne_of_gt ltl (List.mem_singleton.mp z)
    refine wpAny_pyIter_tuple hl1 (wpAny_bind (wpAny_runValue ?_))
    have W0 := (Walks.tuple (prog := prog) (w := w) hh3 _ l (show l ≠ (s.heap.push (setOn w)).objs.size by rw [e1]; exact Nat.ne_of_lt (Nat.lt_succ_of_lt ltl)) items).toS
    rw [hsz] at W0
    refine sx_many (xs := xs) W0 hout at_ hb xs.length 0 _ [] (by omega) ⟨⟨_, Heap.get?_push_size _ rfl, rfl, rfl⟩, hl1.push _⟩ (sx_start (Heap.get?_push_of_some _ hS)) List.nodup_nil (fun y => by simp) (Nat.le_refl _) ?_
    rintro ⟨h', g', d', tk', os'⟩ ys m hS' nd hm ll
    obtain rfl : g' = s.gens := m.gens
    obtain rfl : d' = s.drawn := m.drawn
    obtain rfl : os' = s.os := m.os
    refine wpAny_pure (show wpAny _ _ (ret Value.none) _ _ _ from wpAny_pure ⟨rfl, h h' tk' ys hS' nd hm ll fun b o e => ?_⟩)
    have lb := Heap.lt_size e
    refine m.heap b o (fun z => ?_) (Heap.get?_push_of_some _ (Heap.get?_push_of_some _ e))
    rcases List.mem_cons.mp z with z | z
    · exact Nat.ne_of_lt lb z
    · rw [e1] at z
      rcases List.mem_cons.mp z with z | z
      · exact Nat.ne_of_lt (Nat.lt_succ_of_lt lb) z
      · cases z
  · obtain ⟨⟨oc, od, oda, osl⟩, hol, hcl, nl, hdl⟩ := hl
    simp only at hcl hdl
    subst hcl hdl
    have ltl : l < s.heap.objs.size := Heap.lt_size hol
    have hol' : (s.heap.push (setOn w)).get? l = some { cls := .type "list", dict := od, data := .seq items nl, slots := osl } := Heap.get?_push_of_some _ hol
    have hl1 : (s.heap.push (setOn w)).IsList l items := ⟨_, hol', rfl, nl, rfl⟩
    have k8 := PySem.F.sub_list_set
    have k9 := PySem.F.sub_list_frozenset
    have k10 : (Value.type "list" == Value.type "dict") = false := by decide
    unfold Builtin.«set.__init__» noKeywords Builtin.Frozenset.updateFrom
    generalize hPI : pyIter = PI
    wp_walk
    subst hPI
    have hout : s.heap.objs.size ∉ [(s.heap.push (setOn w)).objs.size, l] := by
      rw [e1]
      intro m
      rcases List.mem_cons.mp m with z | z
      · exact Nat.ne_of_lt (Nat.lt_succ_self _) z
      · exact Nat.ne_of_gt ltl (List.mem_singleton.mp z)
    refine wpAny_pyIter_list hl1 (wpAny_bind (wpAny_runValue ?_))
    have W0 := (Walks.list (prog := prog) (w := w) hh3 _ l (show l ≠ (s.heap.push (setOn w)).objs.size by rw [e1]; exact Nat.ne_of_lt (Nat.lt_succ_of_lt ltl)) items).toS
    rw [hsz] at W0
    refine sx_many (xs := xs) W0 hout at_ hb xs.length 0 _ [] (by omega) ⟨⟨_, Heap.get?_push_size _ rfl, rfl, rfl⟩, hl1.push _⟩ (sx_start (Heap.get?_push_of_some _ hS)) List.nodup_nil (fun y => by simp) (Nat.le_refl _) ?_
    rintro ⟨h', g', d', tk', os'⟩ ys m hS' nd hm ll
    obtain rfl : g' = s.gens := m.gens
    obtain rfl : d' = s.drawn := m.drawn
    obtain rfl : os' = s.os := m.os
    refine wpAny_pure (show wpAny _ _ (ret Value.none) _ _ _ from wpAny_pure ⟨rfl, h h' tk' ys hS' nd hm ll fun b o e => ?_⟩)
    have lb := Heap.lt_size e
    refine m.heap b o (fun z => ?_) (Heap.get?_push_of_some _ (Heap.get?_push_of_some _ e))
    rcases List.mem_cons.mp z with z | z
    · exact Nat.ne_of_lt lb z
    · rw [e1] at z
      rcases List.mem_cons.mp z with z | z
      · exact Nat.ne_of_lt (Nat.lt_succ_of_lt lb) z
      · cases z
theorem perm_of_len {α : Type} [DecidableEq α] : ∀ {l ts : List α}, l.Nodup → (∀ y ∈ l, y ∈ ts) → ts.length = l.length → ts.Perm l
  | [], ts, _, _, e => by
    have : ts = [] := List.length_eq_zero_iff.mp e
    rw [this]
  | k :: r, ts, nd, sub, e => by
    obtain ⟨h1, h2⟩ := List.nodup_cons.mp nd
    have mk : k ∈ ts := sub k List.mem_cons_self
    have p := List.perm_cons_erase mk
    refine p.trans (List.Perm.cons _ (perm_of_len h2 (fun y hy => ?_) ?_))
    · exact (List.mem_erase_of_ne (fun z => h1 (by rw [← z]; exact hy))).mpr (sub y (List.mem_cons_of_mem _ hy))
    · rw [List.length_erase_of_mem mk, e]
      rfl
def txt : Value → Str
  | .str x _ => x
  | _ => Str.empty
theorem strs_txt : ∀ {vs : List Value}, (∀ v ∈ vs, ∃ k t, v = Value.str k t) → StrsAre vs (vs.map txt)
  | [], _ => .nil
  | v :: vs, h => by
    obtain ⟨k, t, rfl⟩ := h v List.mem_cons_self
    exact .cons k t (strs_txt fun v hv => h v (List.mem_cons_of_mem _ hv))
/-- sorted(s), s a set of texts -/
theorem sx_sorted {a : Addr} {l : List Str} {Q : Value → Shared → Prop} (S : SX prog w s.heap a l) (nd : l.Nodup) (hh : A.handled = none) (hb : l.length < scanBound)
    (h : ∀ (s' : Shared) (p : Addr) (out : Array Value) (c : Nat) (ys : List Str), (∀ b o, s.heap.get? b = some o → s'.heap.get? b = some o) → s'.gens = s.gens → s'.os = s.os → s'.drawn = s'.drawn → s.heap.objs.size ≤ p → s'.heap.get? p = some (seqObj "list" out c) → StrsAre out.toList ys → ys.Perm l → sortedS ys = true → Q (.ref p) s') :
    wpAny (model prog w) A (call (.builtin "sorted") [.ref a]) Q E s := by
  obtain ⟨⟨es, ep, t⟩, hg, F, r, hl⟩ := S.ex
  have el : ElemsOf (strKind prog w) es.toList := F.el
  have sz : es.size = l.length := F.sz
  have bd : es.size < scanBound := by rw [sz]; exact hb
  have isT : ∀ v ∈ es.toList.map (·.2), ∃ k u, v = Value.str k u := fun v hv => by
    obtain ⟨e, he, q⟩ := List.mem_map.mp hv
    obtain ⟨⟨k, hk, _⟩, _⟩ := el e he
    subst q
    change Value.isStrOf k e.2 = true at hk
    cases h2 : e.2 with
    | str x u => exact ⟨x, u, rfl⟩
    | _ => rw [h2] at hk; cases hk
  refine Calls.call_function_entry kind_sorted plain_sorted entry_sorted (args_sorted1 _) ?_
  unfold Builtin.«sorted»
  refine wpAny_bind (m := checkCount "sorted" 1 1 _) (wpAny_pure (wpAny_bind (collect_set (A := A.in1) hh ⟨_, hg, rfl, rfl⟩ F.fit bd r hl fun s1 vs k1 hz g1 o1 pm => ?_)))
  have hvl : vs.length = l.length := by rw [pm.length_eq, List.length_map, Array.length_toList]; exact sz
  have hS : StrsAre vs (vs.map txt) := strs_txt fun v hv => isT v (pm.mem_iff.mp hv)
  have pl : (vs.map txt).Perm l := by
    refine perm_of_len nd (fun y hy => ?_) (by rw [List.length_map, hvl])
    obtain ⟨e, he, q⟩ := (F.mem y).mp hy
    refine List.mem_map.mpr ⟨e.2, pm.mem_iff.mpr (List.mem_map.mpr ⟨e, he, rfl⟩), ?_⟩
    change Value.isStrOf y e.2 = true at q
    cases h2 : e.2 with
    | str x u =>
      rw [h2] at q
      exact (beq_iff_eq.mp (show (x == y) = true from by simpa [Value.isStrOf] using q))
    | _ => rw [h2] at q; cases q
  have zl : vs.length ≤ sizeLine := by rw [hvl]; exact fits_of_scanBound hb
  refine wpAny_bind (wpAny_newList ?_ zl)
  have hoL : (s1.heap.push (seqObj "list" vs.toArray 0)).get? s1.heap.objs.size = some (seqObj "list" vs.toArray 0) := Heap.get?_push_size _ rfl
  refine wpAny_bind (wpAny_holding (wpAny_call_entry slot_list_sort ⟨_, hoL, rfl⟩ entry_list_sort (list_sort_treeKAny strKind_oneLt hoL hS.keysOf (fun v₁ v₂ rest e => keyKind_strs (by rw [← e]; exact hS)) zl fun st hp hs => ⟨_, rfl, ?_⟩) (args_list_sort _)))
  obtain ⟨ys, h1, h2, h3⟩ := sorted_out_str hS hp hs
  obtain ⟨c, hc⟩ := sortedHeap_at (vs := vs) (out := (arrOf st).map (·.2)) hoL
  refine wpAny_pure ⟨_, rfl, h _ s1.heap.objs.size _ c ys (fun b u e => ?_) g1 o1 rfl hz hc h1 (h2.trans pl) h3⟩
  have lb := Heap.lt_size (k1 b u e)
  show (sortedHeap (s1.heap.push (seqObj "list" vs.toArray 0)) s1.heap.objs.size vs _).get? b = some u
  rw [sortedHeap_old (Nat.ne_of_lt lb) (by rw [size_push']; exact Nat.lt_succ_of_lt lb)]
  exact Heap.get?_push_of_some _ (k1 b u e)
end
end Cv

/-! part B11 -/
set_option maxRecDepth 100000
set_option maxHeartbeats 4000000
namespace Cv
open PySem PySem.Spec PyProof.Rows L2
open PySem.W (Frag)
section
variable {X : Cx}
/-! ### sorted(set(xs)) -/
def tSortSet (K : Frag) (ta : TE) : TE := fun σ H Q => ta σ H fun x H1 => ∃ (l : Addr) (xs : List Str), x = V.ref l ∧ (SqT K H1 l (xs.map V.str) ∨ SqL K H1 l (xs.map V.str)) ∧ xs.length ≤ 4000 ∧
  ∀ (ys : List Str) (p : Addr), ys.Nodup → (∀ y, y ∈ ys ↔ y ∈ xs) → ys.length ≤ xs.length → sortedS ys = true → H1 p = none → Q (.ref p) (upd H1 p (.lst (ys.map V.str)))
theorem srt_fin {pins : List (Addr × Obj)} {σ : L2.St} {H1 : Hp} {s1 : Shared} {a : Addr} {l : List Str} {Q : VK} (hc : X.calm = true) (I2 : Inv X pins σ H1 s1) (S : SX X.prog X.w s1.heap a l) (nd : l.Nodup) (hb : l.length ≤ 4000)
    (q : ∀ (ys : List Str) (p : Addr), ys.Perm l → sortedS ys = true → H1 p = none → Q (.ref p) (upd H1 p (.lst (ys.map V.str)))) : wpAny (model X.prog X.w) X.A (call (.builtin "sorted") [.ref a]) (EP X pins σ Q) X.xe s1 := by
  refine sx_sorted S nd (I2.ok.hd hc) (by unfold scanBound; omega) fun s' p out c ys k g o _ hp hg hi pl hs => ?_
  have hlen : (ys.map V.str).length ≤ sizeLine := by rw [List.length_map, pl.length_eq, sizeLine_eq]; omega
  have hn : H1 p = none := I2.hok.fresh hp
  have J : Inv X pins σ (upd H1 p (.lst (ys.map V.str))) { s1 with heap := s'.heap, gens := s'.gens, drawn := s'.drawn, toks := s'.toks } :=
    I2.call (ch := []) (Un.laid k hp hn) (I2.hok.laid k hp ⟨hlen, out.toList, c, vals_of_strs hi, hg⟩) (by rw [g]; exact I2.bare) (fun _ z => nomatch z)
  obtain ⟨h', g', d', t', o'⟩ := s'
  cases o
  exact ⟨.ref p, _, J, rfl, q ys p pl hs hn⟩
theorem pe_sortSet {a : Expr} {ta : TE} {p p2 q pos : Pos} (hc : X.calm = true) (hg : Gl X "sorted") (hm : X.mg "sorted" = none) (hg2 : Gl X "set") (hm2 : X.mg "set" = none) (ha : PE X a ta)
    (na : starEach [a] X.env = (false, eval a X.env) :: starEach [] X.env := by rfl) : PE X (.Call (.Name "sorted" p) [.Call (.Name "set" p2) [a] [] q] [] pos) (tSortSet X.K ta) := by
  refine ⟨fun pins s σ H Q I h => ?_⟩
  refine Call_ (ld_blt I hg hm PyProof.Rows.boot_sorted (PyProof.Rows.callWith_builtin1 (PyProof.Rows.args_cons (Call_ (ld_blt I hg2 hm2 PyProof.Rows.boot_set
    (PyProof.Rows.callWith_type1 (PyProof.Rows.args_cons (thn (ha.run pins s σ H _ I h) fun v s1 ⟨x, H1, I1, r1, q1⟩ => PyProof.Rows.args_nil ?_) na) na rfl))) rfl) rfl rfl))
  obtain ⟨l, xs, rfl, hq, hz, q1⟩ := q1
  cases r1
  rcases hq with hq | hq
  · obtain ⟨its, r, pt, _⟩ := I1.tuple hq
    refine sx_of (I1.ok.hd hc) (.inl pt) (xs := xs) (by simpa using r.strs) (by unfold scanBound; omega) fun h' tk ys hS nd hm ll hk => PyProof.Rows.args_nil ?_
    exact srt_fin hc (I1.kept hk) hS nd (by omega) fun zs p pl hs hn => q1 zs p (pl.nodup_iff.mpr nd) (fun y => pl.mem_iff.trans (hm y)) (by rw [pl.length_eq]; exact ll) hs hn
  · obtain ⟨its, r, pt, _⟩ := I1.list hq
    refine sx_of (I1.ok.hd hc) (.inr pt.isList) (xs := xs) (by simpa using r.strs) (by unfold scanBound; omega) fun h' tk ys hS nd hm ll hk => PyProof.Rows.args_nil ?_
    exact srt_fin hc (I1.kept hk) hS nd (by omega) fun zs p pl hs hn => q1 zs p (pl.nodup_iff.mpr nd) (fun y => pl.mem_iff.trans (hm y)) (by rw [pl.length_eq]; exact ll) hs hn
end
end Cv

/-! part B12 -/
set_option maxRecDepth 100000
set_option maxHeartbeats 4000000
namespace Cv
open PySem PySem.Spec PyProof.Rows L2
open PySem.W (Frag)
section
variable {X : Cx}
/-! ### != of dicts of data, with the same keys -/
def rNeD (K : Frag) : R2 := fun x y H Q => ∃ (a b : Addr) (j1 j2 : Addr) (ys : List Key) (vs ws : List V) (ds es : List PyData), x = .ref a ∧ y = .ref b ∧ H a = some (.dK (ys.zip vs)) ∧ H b = some (.dK (ys.zip ws)) ∧ ys.Nodup ∧ vs.length = ys.length ∧ ws.length = ys.length ∧
  DxAll K H j1 vs ds ∧ DxAll K H j2 ws es ∧ (∀ d ∈ ds, SmD d) ∧ (∀ d ∈ es, SmD d) ∧ Q (.bl (!((ds.zip es).all fun p => PyData.eqv p.1 p.2))) H
theorem op_neD (hu : X.A.units + 64 < cLine) : OpR X (compareOp .NotEq) (rNeD X.K) := by
  intro pins s σ H x y v u Q I rx ry h
  obtain ⟨a, b, j1, j2, ys, vs, ws, ds, es, rfl, rfl, ea, eb, nd, lv, lw, hd, he, sd, se, q⟩ := h
  obtain rfl : v = Value.ref a := rx
  obtain rfl : u = Value.ref b := ry
  obtain ⟨_, ya, va, ra, da⟩ := (show ObjOk X.prog X.w H s.heap a (.dK (ys.zip vs)) from I.hok a _ ea)
  obtain ⟨_, yb, vb, rb, db⟩ := (show ObjOk X.prog X.w H s.heap b (.dK (ys.zip ws)) from I.hok b _ eb)
  have hl : va.length = vb.length := by
    rw [← ra.length, ← rb.length, List.length_zip, List.length_zip, lv, lw]
  have nd2 : ((ys.zip ws).map (·.1)).Nodup := by
    rw [List.map_fst_zip (by omega)]
    exact nd
  exact PySem.W.keq_ne (knd := mixKind X.prog X.w) (r := (ds.zip es).all fun p => PyData.eqv p.1 p.2) ya yb da db (by omega) (fun _ => hits_data I (by show X.A.units + 1 + 60 < cLine; omega) rb ys vs ws ds es va lv lw ra (fun p hp => val_nodup nd2 p hp) hd he sd se) (fin_bl I q (by simp [hl]))
theorem all_zip {α β : Type} (f g : α → β) (p : β → β → Bool) : ∀ l : List α, (((l.map f).zip (l.map g)).all fun q => p q.1 q.2) = l.all fun y => p (f y) (g y)
  | [] => rfl
  | y :: l => by
    show (p (f y) (g y) && ((l.map f).zip (l.map g)).all fun q => p q.1 q.2) = (p (f y) (g y) && l.all fun y => p (f y) (g y))
    rw [all_zip f g p l]
end
end Cv

/-! part B13 -/
set_option maxRecDepth 100000
set_option maxHeartbeats 4000000
namespace Cv
open PySem PySem.Spec PyProof.Rows L2
open PySem.W (Frag)
section
variable {X : Cx}
/-! ### == and != of dicts of data, the second one's keys in any order -/
def EqG (K : Frag) (x y : V) (H : Hp) (r : Bool) : Prop := ∃ (a b : Addr) (j1 j2 : Addr) (ys : List Key) (vs ws : List V) (ds es : List PyData) (full : List (Key × V)), x = .ref a ∧ y = .ref b ∧ H a = some (.dK (ys.zip vs)) ∧ H b = some (.dK full) ∧ full.length = ys.length ∧ vs.length = ys.length ∧ ws.length = ys.length ∧
  (∀ p ∈ ys.zip ws, valV full p.1 = some p.2) ∧ DxAll K H j1 vs ds ∧ DxAll K H j2 ws es ∧ (∀ d ∈ ds, SmD d) ∧ (∀ d ∈ es, SmD d) ∧ ((ds.zip es).all fun p => PyData.eqv p.1 p.2) = r
def rEqG (K : Frag) : R2 := fun x y H Q => ∃ r, EqG K x y H r ∧ Q (.bl r) H
def rNeG (K : Frag) : R2 := fun x y H Q => ∃ r, EqG K x y H r ∧ Q (.bl (!r)) H
theorem op_eqG (hu : X.A.units + 64 < cLine) : OpR X (compareOp .Eq) (rEqG X.K) := by
  intro pins s σ H x y v u Q I rx ry h
  obtain ⟨r, ⟨a, b, j1, j2, ys, vs, ws, ds, es, full, rfl, rfl, ea, eb, lf, lv, lw, hf, hd, he, sd, se, er⟩, q⟩ := h
  obtain rfl : v = Value.ref a := rx
  obtain rfl : u = Value.ref b := ry
  obtain ⟨_, ya, va, ra, da⟩ := (show ObjOk X.prog X.w H s.heap a (.dK (ys.zip vs)) from I.hok a _ ea)
  obtain ⟨_, yb, vb, rb, db⟩ := (show ObjOk X.prog X.w H s.heap b (.dK full) from I.hok b _ eb)
  have hl : va.length = vb.length := by
    rw [← ra.length, ← rb.length, List.length_zip, lv, lf]
    omega
  exact PySem.W.keq_eq (knd := mixKind X.prog X.w) (r := (ds.zip es).all fun p => PyData.eqv p.1 p.2) ya yb da db (by omega) (fun _ => hits_data I (by show X.A.units + 1 + 60 < cLine; omega) rb ys vs ws ds es va lv lw ra hf hd he sd se) (fin_bl I q (by rw [er]; simp [hl]))
theorem op_neG (hu : X.A.units + 64 < cLine) : OpR X (compareOp .NotEq) (rNeG X.K) := by
  intro pins s σ H x y v u Q I rx ry h
  obtain ⟨r, ⟨a, b, j1, j2, ys, vs, ws, ds, es, full, rfl, rfl, ea, eb, lf, lv, lw, hf, hd, he, sd, se, er⟩, q⟩ := h
  obtain rfl : v = Value.ref a := rx
  obtain rfl : u = Value.ref b := ry
  obtain ⟨_, ya, va, ra, da⟩ := (show ObjOk X.prog X.w H s.heap a (.dK (ys.zip vs)) from I.hok a _ ea)
  obtain ⟨_, yb, vb, rb, db⟩ := (show ObjOk X.prog X.w H s.heap b (.dK full) from I.hok b _ eb)
  have hl : va.length = vb.length := by
    rw [← ra.length, ← rb.length, List.length_zip, lv, lf]
    omega
  exact PySem.W.keq_ne (knd := mixKind X.prog X.w) (r := (ds.zip es).all fun p => PyData.eqv p.1 p.2) ya yb da db (by omega) (fun _ => hits_data I (by show X.A.units + 1 + 60 < cLine; omega) rb ys vs ws ds es va lv lw ra hf hd he sd se) (fin_bl I q (by rw [er]; simp [hl]))
/-! ### len(set(l)), l a list of texts -/
def tLenSetL (K : Frag) (ta : TE) : TE := fun σ H Q => ta σ H fun x H1 => ∃ (l : Addr) (xs : List Str), x = V.ref l ∧ SqL K H1 l (xs.map V.str) ∧ xs.length ≤ 4000 ∧ ∀ ys : List Str, ys.Nodup → (∀ y, y ∈ ys ↔ y ∈ xs) → Q (.int ys.length) H1
theorem pe_lenSetL {a : Expr} {ta : TE} {p p2 q pos : Pos} (hc : X.calm = true) (hg : Gl X "len") (hm : X.mg "len" = none) (hg2 : Gl X "set") (hm2 : X.mg "set" = none) (ha : PE X a ta)
    (na : starEach [a] X.env = (false, eval a X.env) :: starEach [] X.env := by rfl) : PE X (.Call (.Name "len" p) [.Call (.Name "set" p2) [a] [] q] [] pos) (tLenSetL X.K ta) := by
  refine ⟨fun pins s σ H Q I h => ?_⟩
  refine Call_ (ld_blt I hg hm PySem.boot_len (PyProof.Rows.callWith_builtin1 (PyProof.Rows.args_cons (Call_ (ld_blt I hg2 hm2 PyProof.Rows.boot_set
    (PyProof.Rows.callWith_type1 (PyProof.Rows.args_cons (thn (ha.run pins s σ H _ I h) fun v s1 ⟨x, H1, I1, r1, q1⟩ => PyProof.Rows.args_nil ?_) na) na rfl))) rfl) rfl rfl))
  obtain ⟨l, xs, rfl, hq, hz, q1⟩ := q1
  cases r1
  obtain ⟨its, r, pt, _⟩ := I1.list hq
  refine sx_of (I1.ok.hd hc) (.inr pt.isList) (xs := xs) (by simpa using r.strs) (by unfold scanBound; omega) fun h' tk ys hS nd hm ll hk => PyProof.Rows.args_nil ?_
  obtain ⟨⟨es, ep, t⟩, ho, F, _, _⟩ := hS.ex
  have I2 : Inv X pins σ H1 { s1 with heap := h', toks := tk } := I1.kept hk
  have sz : es.size = ys.length := F.sz
  refine call_len_set ho ⟨rfl, rfl, rfl⟩ rfl F.fit (by rw [sz]; omega) ⟨.int ys.length, H1, I2.tok _, ⟨_, by rw [sz]⟩, q1 ys nd hm⟩
end
end Cv

/-! part B14 -/
set_option maxRecDepth 100000
set_option maxHeartbeats 4000000
namespace Cv
open PySem PySem.Spec PyProof.Rows L2
open PySem.W (Frag)
/-! ### {**a, **b} -/
section
variable {prog : Program} {w : World} {KT : Type} [DecidableEq KT] {kd : KeyKind prog w KT} {A : Around} {E : Value → Shared → Prop} {s : Shared}
theorem put_at {d : Addr} {l : List (KT × Value)} {k : KT} {kv v : Value} {Q : Unit → Shared → Prop} (hk : kd.is k kv = true) (D : s.heap.DictOf kd d l) (hz : l.length ≤ sizeLine)
    (q : ∀ h', h'.DictOf kd d (stored l k v) → Heap.SameBut d s.heap h' → Q () { s with heap := h' }) : wpAny (model prog w) A (dictPut d (kd.hash k) kv v) Q E s := by
  obtain ⟨ob, es, ep, g, c, dd, ks, ps, nd⟩ := D
  have sz : es.size ≤ sizeLine := by
    have h1 := ps.length
    rw [Array.length_toList] at h1
    omega
  unfold dictPut
  refine wpAny_bind (wpAny_dictFind_of hk g dd ks ?_)
  have ix : (es.findIdx? fun e => kd.is k e.key) = l.findIdx? fun p => decide (p.1 = k) := by
    have h1 := ps.findIdx k
    rw [← h1]
    obtain ⟨l⟩ := es
    simp
  cases fi : es.findIdx? fun e => kd.is k e.key with
  | none =>
    have out : k ∉ l.map (·.1) := not_mem_of_findIdx_none (ix ▸ fi)
    have no : ¬ (l.any fun p => decide (p.1 = k)) = true := fun z => by
      obtain ⟨p, hp, e⟩ := List.any_eq_true.mp z
      exact out (List.mem_map.mpr ⟨p, hp, of_decide_eq_true e⟩)
    have st : stored l k v = l ++ [(k, v)] := by rw [stored, if_neg no]
    refine wpAny_updateDictKeys (hz := sz) g dd (q _ ?_ (Heap.SameBut.update ..))
    have pa : Pairs kd (es.push ⟨kd.hash k, kv, v⟩).toList (l ++ [(k, v)]) := by
      have h1 := ps.append hk (kd.hash k) v
      obtain ⟨z⟩ := es
      simpa using h1
    have n2 : ((l ++ [(k, v)]).map (·.1)).Nodup := by
      rw [List.map_append, List.nodup_append]
      refine ⟨nd, by simp, fun a ha b hb e => ?_⟩
      have hb' : b = k := by simpa using hb
      exact out (by rw [← hb', ← e]; exact ha)
    rw [st]
    exact ⟨_, _, ep + 1, Heap.get?_update_self _ g (Obj.isFreed_of_dict (Obj.data_mapDictKeys dd _)), c.mapDictKeys _, Obj.data_mapDictKeys dd _, ks.push hk _, pa, n2⟩
  | some i =>
    have yes := any_of_findIdx_some (ix ▸ fi)
    refine wpAny_updateDict g dd (q _ ?_ (Heap.SameBut.update ..))
    have fl : (es.toList.findIdx? fun e => kd.is k e.key) = some i := by
      rw [← fi]
      obtain ⟨z⟩ := es
      simp
    have h1 := ps.modify nd fl v
    have pa : Pairs kd (es.modify i fun e => { e with val := v }).toList (stored l k v) := by
      rw [stored, if_pos yes]
      obtain ⟨z⟩ := es
      simpa using h1
    have n2 : ((stored l k v).map (·.1)).Nodup := by
      rw [stored, if_pos yes, keys_map_store]
      exact nd
    exact ⟨_, _, ep, Heap.get?_update_self _ g (Obj.isFreed_of_dict (Obj.data_mapDict dd _)), c.mapDict _, Obj.data_mapDict dd _, ks.modify _ _, pa, n2⟩
theorem merge_map {d o : Addr} {l more : List (KT × Value)} {Q : Unit → Shared → Prop} (ne : d ≠ o) (os : (o == sysModules) = false) (D : s.heap.DictOf kd d l) (O : s.heap.DictOf kd o more) (nr : ∀ k v, kd.is k v = true → ∀ a : Addr, v ≠ .ref a)
    (hz : l.length + more.length ≤ sizeLine) (q : ∀ h', h'.DictOf kd d (merged l more) → h'.DictOf kd o more → Heap.SameBut d s.heap h' → Q () { s with heap := h' }) : wpAny (model prog w) A (mergeMapping d (.ref o) false) Q E s := by
  obtain ⟨od, ed, pd, gd, cd, dd, kd1, pd1, nd⟩ := id D
  obtain ⟨oo, eo, po, go, co, do_, ko, po1, no⟩ := id O
  unfold mergeMapping
  refine wpAny_bind (wpAny_isInstance O.typeIs isSubtype_dict_dict ?_)
  rw [if_pos rfl]
  refine wpAny_bind (wpAny_specialOf O.typeIs F.slot_dict_iter.lookup ?_)
  simp only [beq_self_eq_true, pure_bind]
  rw [if_neg (by rw [os]; exact Bool.false_ne_true)]
  have LL : more.length = eo.size := by rw [← po1.length, Array.length_toList]
  have loop : wpAny (model prog w) A (do
      let l' ← dictEntries o
      let epoch ← dictEpoch o
      forIn (List.range l'.size) PUnit.unit fun i (_ : PUnit) => (do
        let l2 ← dictEntries o
        match l2[i]? with
          | some e => do
            holding [e.key, e.val] (dictPut d e.hash e.key e.val)
            let ep ← dictEpoch o
            if (ep != epoch) = true then do
                (unsupported "dict.changed-during-merge" : Sem PUnit)
                pure (ForInStep.yield PUnit.unit)
              else pure (ForInStep.yield PUnit.unit)
          | _ => do
            (unsupported "dict.changed-during-merge" : Sem PUnit)
            pure (ForInStep.yield PUnit.unit) : Sem (ForInStep PUnit))
      pure ()) Q E s := by
    refine wpAny_bind (wpAny_dictEntries go do_ ?_)
    refine wpAny_bind (wpAny_dictEpoch go do_ ?_)
    refine wpAny_bind ?_
    rw [List.range_eq_range']
    refine wpAny_forIn_list _ (fun rest _ s' => ∃ (h' : Heap) (i : Nat), s' = { s with heap := h' } ∧ rest = List.range' i (eo.size - i) ∧ i ≤ eo.size ∧ h'.DictOf kd d (merged l (more.take i)) ∧ h'.get? o = some oo ∧ Heap.SameBut d s.heap h') _ ?_ ?_ _ _
      ⟨s.heap, 0, rfl, by simp, Nat.zero_le _, by simpa [merged] using D, go, Heap.SameBut.refl _ _⟩
    · rintro x rest b s' ⟨h1, i, rfl, er, le, D1, g1, sb⟩
      have lt : i < eo.size := by
        rcases Nat.lt_or_ge i eo.size with z | z
        · exact z
        · rw [Nat.sub_eq_zero_of_le z] at er
          cases er
      have e1 : eo.size - i = (eo.size - (i + 1)) + 1 := by omega
      rw [e1, List.range'_succ] at er
      obtain ⟨ex, er⟩ := List.cons.inj er
      subst ex
      refine wpAny_bind (wpAny_dictEntries g1 do_ ?_)
      rw [Array.getElem?_eq_getElem lt]
      obtain ⟨p, hp⟩ : ∃ p, more[x]? = some p := ⟨more[x]'(by rw [LL]; exact lt), List.getElem?_eq_getElem _⟩
      obtain ⟨hk, hv⟩ := po1.get? (e := eo[x]) (by simp [lt]) hp
      obtain ⟨k2, hk2, hh⟩ := ko eo[x] (Array.getElem_mem lt)
      obtain rfl : k2 = p.1 := kd.inj _ _ _ hk2 hk
      show wpAny _ _ (holding [eo[x].key, eo[x].val] (dictPut d eo[x].hash eo[x].key eo[x].val) >>= _) _ _ _
      rw [hh, hv]
      have lz : (merged l (more.take x)).length ≤ sizeLine := by
        have z1 := merged_length_le l (more.take x)
        have z2 := List.length_take_le x more
        omega
      refine wpAny_bind (wpAny_holding (put_at hk D1 lz fun h2 D2 sb2 => ?_))
      have g2 : h2.get? o = some oo := (sb2.2 o (Ne.symm ne)).trans g1
      refine wpAny_bind (wpAny_dictEpoch g2 do_ ?_)
      rw [if_neg (by simp)]
      exact wpAny_pure ⟨h2, x + 1, rfl, er, lt, by rw [merged_take_succ l more x p hp]; exact D2, g2, sb.trans sb2⟩
    · rintro b s' ⟨h1, i, rfl, er, le, D1, g1, sb⟩
      have ei : i = eo.size := by
        rcases Nat.lt_or_ge i eo.size with z | z
        · have e1 : eo.size - i = (eo.size - (i + 1)) + 1 := by omega
          rw [e1, List.range'_succ] at er
          cases er
        · exact Nat.le_antisymm le z
      rw [ei, ← LL, List.take_length] at D1
      exact wpAny_pure (q h1 D1 ⟨oo, eo, po, g1, co, do_, ko, po1, no⟩ sb)
  refine wpAny_bind (wpAny_dictEntries gd dd ?_)
  split
  · refine wpAny_bind (wpAny_dictEntries go do_ ?_)
    refine wpAny_bind ?_
    rw [← Array.forIn_toList]
    refine wpAny_forIn_list _ (fun rest _ s' => s' = s ∧ ∀ e ∈ rest, e ∈ eo.toList) _ ?_ ?_ _ _ ⟨rfl, fun e h => h⟩
    · rintro e rest b s' ⟨rfl, m⟩
      obtain ⟨k, hk, _⟩ := ko e (Array.mem_toList_iff.mp (m e List.mem_cons_self))
      have nk := nr k e.key hk
      split
      · rename_i a ea
        exact absurd ea (nk a)
      · exact wpAny_pure ⟨rfl, fun e h => m e (List.mem_cons_of_mem _ h)⟩
    · rintro b s' ⟨rfl, _⟩
      exact loop
  · exact loop
end
end Cv

/-! part B15 -/
set_option maxRecDepth 100000
set_option maxHeartbeats 4000000
namespace Cv
open PySem PySem.Spec PyProof.Rows L2
open PySem.W (Frag)
section
variable {X : Cx}
def tStar2 (ta tb : TE) : TE := fun σ H Q => ∀ p, H p = none → ta σ (upd H p (.dK [])) fun x H1 => ∃ (d : Addr) (kvs : List (Key × V)), x = .ref d ∧ d ≠ p ∧ H1 d = some (.dK kvs) ∧ H1 p = some (.dK []) ∧ kvs.length ≤ 1000 ∧
  tb σ (upd H1 p (.dK (mergeK [] kvs))) fun y H2 => ∃ (e : Addr) (kws : List (Key × V)), y = .ref e ∧ e ≠ p ∧ H2 e = some (.dK kws) ∧ H2 p = some (.dK (mergeK [] kvs)) ∧ kws.length ≤ 1000 ∧ Q (.ref p) (upd H2 p (.dK (mergeK (mergeK [] kvs) kws)))
theorem pe_star2 {a b : Expr} {ta tb : TE} {pos : Pos} (ha : PE X a ta) (hb : PE X b tb) : PE X (.Dict [none, none] [a, b] pos) (tStar2 ta tb) := by
  refine ⟨fun pins s σ H Q I h => ?_⟩
  have n0 := I.hok.fresh (Nat.le_refl s.heap.objs.size)
  have I1 := I.laid (a := s.heap.objs.size) (o := .dK []) (h' := s.heap.push { cls := .type "dict", data := .dict #[] }) (t' := s.toks) (fun _ _ q => Heap.get?_push_of_some _ q) (Nat.le_refl _) (dk_empty s.heap I.big)
  show wpAny _ _ (do standAt pos; dictDisplay [(none, do let x ← eval a X.env; standAt pos; pure x), (none, do let x ← eval b X.env; standAt pos; pure x)]) _ _ s
  refine wpAny_bind (wpAny_standAt ?_)
  unfold dictDisplay
  simp only [List.forIn_cons, List.forIn_nil]
  have nr : ∀ k v, (mixKind X.prog X.w).is k v = true → ∀ a : Addr, v ≠ .ref a := fun k v hk a e => by
    subst e
    rcases keyIs_shape hk with ⟨i, t, _, z⟩ | ⟨x, t, _, z⟩ <;> cases z
  refine wpAny_bind (wpAny_bind (wpAny_bind (show wpAny _ _ (pure none : Sem (Option Addr)) _ _ _ from wpAny_pure ?_)))
  dsimp only
  refine wpAny_bind (wpAny_alloc ?_)
  refine wpAny_bind (wpAny_holding (wpAny_bind (thn (ha.run pins _ σ _ _ I1 (h _ n0)) fun v s1 ⟨x, H1, I2, r1, q1⟩ => wpAny_bind (wpAny_standAt (wpAny_pure ?_)))))
  obtain ⟨d, kvs, rfl, ne, hd, hp, lz, q1⟩ := q1
  cases r1
  obtain ⟨_, os1, vs1, kv1, D1⟩ := dk_of I2.hok hd
  obtain ⟨_, osp, vsp, kvp, Dp⟩ := dk_of I2.hok hp
  cases kvp
  have L1 : vs1.length ≤ 1000 := by rw [← kv1.length]; exact lz
  refine wpAny_bind (wpAny_onRaise (wpAny_tryCatch (wpAny_onRaise (wpAny_holding (merge_map (Ne.symm ne) os1 Dp D1 nr (Nat.le_trans (show 0 + vs1.length ≤ 1000 by omega) (by decide)) fun h1 M1 O1 sb1 => ?_)))))
  refine wpAny_pure ?_
  dsimp only
  have z1 : (mergeK [] kvs).length ≤ sizeLine := Nat.le_trans (length_mergeK kvs []) (Nat.le_trans (show 0 + kvs.length ≤ 1000 by omega) (by decide))
  have I3 := d_write (t' := s1.toks) I2 (by rw [hp]; exact True.intro) sb1 (let ⟨u, _, _, e, _⟩ := M1; ⟨u, e⟩) (dk_new z1 osp (kv1.merge .nil) M1)
  refine wpAny_bind (wpAny_bind (show wpAny _ _ (pure (some s.heap.objs.size) : Sem (Option Addr)) _ _ _ from wpAny_pure ?_))
  dsimp only
  refine wpAny_bind (wpAny_pure ?_)
  refine wpAny_bind (wpAny_holding (wpAny_bind (thn (hb.run pins _ σ _ _ I3 q1) fun v s2 ⟨x, H2, I4, r2, q2⟩ => wpAny_bind (wpAny_standAt (wpAny_pure ?_)))))
  obtain ⟨e, kws, rfl, ne2, he, hp2, lz2, q2⟩ := q2
  cases r2
  obtain ⟨_, os2, vs2, kv2, D2⟩ := dk_of I4.hok he
  obtain ⟨_, osq, vsq, kvq, Dq⟩ := dk_of I4.hok hp2
  have L2 : vs2.length ≤ 1000 := by rw [← kv2.length]; exact lz2
  have Lq : vsq.length ≤ 1000 := by rw [← kvq.length]; exact Nat.le_trans (length_mergeK kvs []) (by rw [List.length_nil]; omega)
  refine wpAny_bind (wpAny_onRaise (wpAny_tryCatch (wpAny_onRaise (wpAny_holding (merge_map (Ne.symm ne2) os2 Dq D2 nr (Nat.le_trans (show vsq.length + vs2.length ≤ 2000 by omega) (by decide)) fun h2 M2 O2 sb2 => ?_)))))
  refine wpAny_pure ?_
  dsimp only
  have z2 : (mergeK (mergeK [] kvs) kws).length ≤ sizeLine := Nat.le_trans (length_mergeK kws _) (Nat.le_trans (show _ ≤ 2000 by have := length_mergeK kvs []; rw [List.length_nil] at this; omega) (by decide))
  have I5 := d_write (t' := s2.toks) I4 (by rw [hp2]; exact True.intro) sb2 (let ⟨u, _, _, e, _⟩ := M2; ⟨u, e⟩) (dk_new z2 osq (kv2.merge kvq) M2)
  refine wpAny_pure ?_
  refine wpAny_bind (show wpAny _ _ (pure (some s.heap.objs.size) : Sem (Option Addr)) _ _ _ from wpAny_pure ?_)
  exact wpAny_pure ⟨.ref _, _, I5, rfl, q2⟩
end
end Cv

/-! part B16 -/
set_option maxRecDepth 100000
set_option maxHeartbeats 4000000
namespace Cv
open PySem PySem.Spec PyProof.Rows L2
open PySem.W (Frag)
open AutoSeq1 (wpAny_loadPart')
/-! ### tuple(d), d a dict -/
section
variable {prog : Program} {w : World} {A : Around} {E : Value → Shared → Prop} {s : Shared}
theorem tup_new_d {d : Addr} {o : Obj} {n : Nat} {P : Nat → Value → Prop} {OK : Heap → Prop} {Q₁ : Value → Shared → Prop} (S : PySem.W.KdlSrc prog w "dict" d d n P OK) (g : s.heap.get? d = some o) (c : o.cls = .type "dict") (hh : A.handled = none) (ok : OK s.heap) (z : n ≤ sizeLine)
    (q : ∀ (h' : Heap) (tk : Nat) (acc : Array Value), (∀ b o, s.heap.get? b = some o → h'.get? b = some o) → ItemsOf P acc n → Q₁ (.ref h'.objs.size) { s with heap := h'.push { cls := .type "tuple", data := .seq acc }, toks := tk }) :
    codeAny (model prog w) A (.call (.builtin "tuple.__new__") ⟨[.type "tuple", .ref d], []⟩) (wants Q₁ E) s := by
  have k1 := sub_tuple_self
  have k2 := init_tuple_lookup
  have k3 := madeHere_tuple
  refine codeAny_of_tree (show wpAny _ A.in1 (do checkBuiltinCall "tuple.__new__" ⟨[.type "tuple", .ref d], []⟩; again (.builtin "tuple.__new__" ⟨[.type "tuple", .ref d], []⟩)) _ _ s from wpAny_bind (wpAny_of_eq (F.newCall_tuple_1 _) (wpAny_pure ⟨plainId_quiet F.plain_tuple_new _, codeAny_builtin F.entry_tuple_new ?_⟩)))
  rw [Around.under_plainId F.plain_tuple_new _]
  have hin : A.in1.handled = none := by simp [hh]
  have k4 : s.TypeIs (.ref d) "dict" := ⟨o, g, c⟩
  wp_walk using wpAny_typeOf k4, PySem.W.kdu_collect (A := A.in1) S hin ok z
  intro h' tk acc k5 k6
  show wpAny _ _ (Builtin.Tuple.tupleExact acc.toList.toArray >>= fun v => ret v) _ _ _
  unfold Builtin.Tuple.tupleExact
  refine wpAny_bind (wpAny_newObj_type ?_ (by show acc.toList.toArray.size ≤ sizeLine; rw [Array.toArray_toList, k6.1]; exact z))
  rw [show acc.toList.toArray = acc by simp]
  exact wpAny_pure (q h' tk acc k5 k6)
end
section
variable {X : Cx}
def rTupD : List V → Hp → VK → Prop := fun xs H Q => ∃ (a : Addr) (kvs : List (Key × V)), xs = [.ref a] ∧ Rd H a (.dK kvs) ∧ ∀ p, H p = none → Q (.ref p) (upd H p (.tup (kvs.map fun kv => kV kv.1)))
theorem call_tupD (hc : X.calm = true) : CallR X (.type "tuple") rTupD := by
  intro pins s σ H xs us Q I r q
  obtain ⟨a, kvs, rfl, hd, q⟩ := q
  obtain ⟨u, rfl, rx⟩ := vals1 r
  cases rx
  obtain ⟨z, lo, vs, rel, dd⟩ := dk_rd I.hok hd
  obtain ⟨ep, at_⟩ := dd.dictAt
  obtain ⟨o, _, _, g, ex, _⟩ := id dd
  have lz : vs.length ≤ sizeLine := by rw [← rel.length]; exact z
  refine callType_codes (Q₁ := fun obj s₁ => s₁.TypeIs obj "tuple" ∧ EP X pins σ Q obj s₁) F.called_tuple (F.typeCall_tuple_1 _) F.entry_object_init
    (tup_new_d (PySem.W.kdl_dict (knd := mixKind X.prog X.w) (kvs := vs) (ep := ep) lo) g ex.1 (by have := I.ok.hd hc; simp [this]) at_ lz fun h' tk acc k1 k2 => ⟨⟨_, Heap.get?_push_size _ rfl, rfl⟩, ?_⟩) fun obj s₁ h₁ => ?_
  · have I1 : Inv X pins σ H { s with heap := h', toks := tk } := I.kept k1
    have al : acc.toList.length = vs.length := by rw [Array.length_toList, k2.1]
    have ks : kvs.map (fun kv => kV kv.1) = vs.map fun p => kV p.1 := by
      have e := congrArg (List.map kV) rel.keys
      rw [List.map_map, List.map_map] at e
      exact e
    have rv : Vals (kvs.map fun kv => kV kv.1) acc.toList := by
      rw [ks]
      exact keys_at al fun j v e => by
        obtain ⟨k, x, e1, e2⟩ := k2.2 j v (by rw [← Array.getElem?_toList]; exact e)
        exact ⟨k, x, e1, e2⟩
    refine ⟨.ref h'.objs.size, upd H h'.objs.size (.tup (kvs.map fun kv => kV kv.1)), I1.laid (t' := tk) (fun b u e => Heap.get?_push_of_some _ e) (Nat.le_refl _) (show ObjOk X.prog X.w _ _ _ (.tup _) from ⟨by rw [List.length_map]; exact z, acc.toList, rv, _, Heap.get?_push_size _ rfl, rfl, 0, by simp⟩), rfl, q _ (I1.hok.fresh (Nat.le_refl _))⟩
  · exact ⟨h₁.1, F.args_object_init_2 obj _, object_init_meets F.called_tuple.init.lookup F.called_tuple.made (by decide) X.prog X.w X.A.in1 _ s₁ ⟨h₁.1, rfl, h₁.2⟩⟩
end
end Cv

/-! part B17 -/
set_option maxRecDepth 100000
set_option maxHeartbeats 4000000
namespace Cv
open PySem PySem.Spec PyProof.Rows L2
open PySem.W (Frag)
/-! ### l[::-1], l a list -/
theorem pick_back (xs : Array Value) : slicePick xs none none (some (-1)) = xs.toList.reverse.toArray := by
  rw [← pick_rev]
  unfold slicePick
  have e1 : sliceBounds none none (some (-1)) xs.size = ((xs.size : Int) - 1, -1, -1) := rfl
  rw [e1]
  show ((sliceRange ((xs.size : Int) - 1) (-1) (-1)).filterMap (xs[·]?)).toArray = _
  unfold sliceRange
  rw [if_neg (by decide)]
  have ec : (if (xs.size : Int) - 1 > -1 then ((xs.size : Int) - 1 - (-1) - (-1) - 1) / (-(-1)) else 0).toNat = xs.size := by
    by_cases h : (xs.size : Int) - 1 > -1
    · rw [if_pos h]
      have : ((xs.size : Int) - 1 - (-1) - (-1) - 1) / (-(-1)) = (xs.size : Int) := by
        show ((xs.size : Int) - 1 - (-1) - (-1) - 1) / 1 = _
        rw [Int.ediv_one]
        omega
      rw [this]
      omega
    · rw [if_neg h]
      omega
  dsimp only
  rw [ec, List.filterMap_map]
  congr 2
  funext k
  show xs[(((xs.size : Int) - 1) + (-1) * (k : Int)).toNat]? = xs[(((xs.size : Int) - 1) + (k : Int) * (-1)).toNat]?
  rw [Int.mul_comm]
section
variable {X : Cx}
def tRevL (K : Frag) (te : TE) : TE := fun σ H Q => te σ H fun x H1 => ∃ a xs, x = .ref a ∧ SqL K H1 a xs ∧ ∀ p, H1 p = none → Q (.ref p) (upd H1 p (.lst xs.reverse))
theorem pe_revL {e : Expr} {te : TE} {k : Nat} {p1 p2 p3 pos : Pos} (he : PE X e te) : PE X (.Subscript e (.Slice none none (some (.UnaryOp .USub (.Constant (.int 1) k p1) p2)) p3) pos) (tRevL X.K te) := by
  refine ⟨fun pins s σ H Q I h => ?_⟩
  refine Subscript_ (thn (he.run pins s σ H _ I h) fun v s1 ⟨x, H1, I1, r1, q1⟩ => ?_)
  obtain ⟨a, xs, rfl, hx, q⟩ := q1
  cases r1
  have one : PO X (some (.UnaryOp .USub (.Constant (.int 1) k p1) p2)) (tPart (tUn (rU fun i => .int (-i)) (tC (.int 1)))) := po_some (pe_un un_neg pe_int)
  refine wpAny_Slice (thn (po_none.run pins s1 σ H1 (fun o H2 => o = none ∧ H2 = H1) I1 ⟨rfl, rfl⟩) fun vl s2 ⟨l, H2, I2, pl, el, e2⟩ => ?_)
  subst el e2
  refine thn (po_none.run pins s2 σ H2 (fun o H3 => o = none ∧ H3 = H2) I2 ⟨rfl, rfl⟩) fun vu s3 ⟨u, H3, I3, pu, eu, e3⟩ => ?_
  subst eu e3
  refine thn (one.run pins s3 σ H3 (fun o H4 => o = some (-1) ∧ H4 = H3) I3 ⟨1, rfl, -1, rfl, rfl, rfl⟩) fun vs s4 ⟨o, H4, I4, ps, eo, e4⟩ => ?_
  subst eo e4
  have I5 : Inv X pins σ H4 { s4 with heap := s4.heap.push { cls := .type "slice", data := .fields #[vl, vu, vs] } } := I4.kept (t' := s4.toks) fun b ob q => Heap.get?_push_of_some _ q
  obtain ⟨its, r, ht, hz⟩ := I5.list hx
  have hlen := r.length
  show wpAny (model X.prog X.w) X.A (subscriptTail e (.Slice none none (some (.UnaryOp .USub (.Constant (.int 1) k p1) p2)) p3) (.ref a) (.ref s4.heap.objs.size)) (EP X pins σ Q) X.xe { s4 with heap := s4.heap.push { cls := .type "slice", data := .fields #[vl, vu, vs] } }
  refine tail_any (ops := [.ref a, .ref s4.heap.objs.size]) ht.isList.typeIs (slot_list_getitem.lookup) ?_ (by with_unfolding_all rfl)
  refine wpAny_getItem_list_slice (st := some (-1)) ht.isList (Heap.IsSliceOf.new _ vl vu vs) pl pu ps (by decide) ?_ (by rw [List.size_toArray, ← hlen]; exact hz)
  rw [pick_back]
  refine ⟨.ref _, _, I5.laid (t' := s4.toks) (o := .lst xs.reverse) (fun b ob q => Heap.get?_push_of_some _ q) (Nat.le_refl _) ?_, rfl, q _ (I5.hok.fresh (Nat.le_refl _))⟩
  exact ⟨by rw [List.length_reverse]; exact hz, _, 0, r.reverse, Heap.get?_push_size _ rfl⟩
/-! ### a text times a number -/
def repS (x : Str) (n : Int) : Str := ⟨(List.replicate n.toNat x.cps).foldl (· ++ ·) #[]⟩
theorem rep_size (a : Array Nat) : ∀ (m : Nat) (b : Array Nat), ((List.replicate m a).foldl (· ++ ·) b).size = b.size + m * a.size
  | 0, b => by
    show b.size = b.size + 0 * a.size
    omega
  | m + 1, b => by
    show ((List.replicate m a).foldl (· ++ ·) (b ++ a)).size = _
    rw [rep_size a m, Array.size_append, Nat.succ_mul]
    omega
theorem repS_len (x : Str) (n : Int) : (repS x n).length = n.toNat * x.length := by
  show ((List.replicate n.toNat x.cps).foldl (· ++ ·) #[]).size = _
  rw [rep_size]
  show 0 + _ = _
  rw [Nat.zero_add]
  rfl
theorem rep_mem (a : Array Nat) (c : Nat) : ∀ (m : Nat) (b : Array Nat), c ∈ ((List.replicate m a).foldl (· ++ ·) b).toList → c ∈ b.toList ∨ c ∈ a.toList
  | 0, b, h => .inl h
  | m + 1, b, h => by
    have h2 : c ∈ ((List.replicate m a).foldl (· ++ ·) (b ++ a)).toList := h
    rcases rep_mem a c m _ h2 with q | q
    · rw [Array.toList_append] at q
      exact List.mem_append.mp q
    · exact .inr q
theorem repS_mem {x : Str} {n : Int} {c : Nat} (h : c ∈ (repS x n).cps.toList) : c ∈ x.cps.toList := by
  rcases rep_mem x.cps c n.toNat #[] h with q | q
  · simp at q
  · exact q
def rMulS : R2 := fun x y H Q => ∃ (z : Str) (n : Int), x = .str z ∧ y = .int n ∧ 2 ≤ n ∧ n ≤ 100000 ∧ 1 ≤ z.length ∧ z.length * n.toNat ≤ 100000 ∧ Q (.str (repS z n)) H
theorem op_mulS : OpR X (binaryOp .Mult) rMulS := by
  intro pins s σ H x y v u Q I rx ry h
  obtain ⟨z, n, rfl, rfl, n2, n9, z1, z9, q⟩ := h
  obtain ⟨t, rfl⟩ := rx
  obtain ⟨t2, rfl⟩ := ry
  have h1 : (n == 1 || z.length == 0) = false := by
    rw [show (n == 1) = false from beq_eq_false_iff_ne.mpr (by omega), show (z.length == 0) = false from beq_eq_false_iff_ne.mpr (by omega)]
    rfl
  have zn : (z.length : Int) * n ≤ 100000 := by
    have e : (z.length : Int) * n = ((z.length * n.toNat : Nat) : Int) := by
      rw [Int.natCast_mul, Int.toNat_of_nonneg (by omega)]
    rw [e]
    omega
  have a1 : ¬ n < -(2 ^ 63 : Int) := by omega
  have a2 : ¬ n ≥ 2 ^ 63 := by omega
  refine PySem.P.mul_str (by rw [decide_eq_false a1, decide_eq_false a2]; rfl) (fun _ _ => ?_) (fun _ _ => ?_) ?_
  · exact Int.not_lt.mpr (Int.le_ediv_of_mul_le (by omega) (Int.le_trans zn (by decide)))
  · show decide (z.length * n.toNat > sizeLine) = false
    exact decide_eq_false (by rw [sizeLine_eq]; omega)
  · rw [if_neg (by omega), if_neg (by rw [h1]; exact Bool.false_ne_true)]
    refine ⟨?_, ?_⟩
    · show (repS z n).length ≤ sizeLine
      rw [repS_len, sizeLine_eq, Nat.mul_comm]
      omega
    · exact ⟨.str (repS z n), H, I.tok _, ⟨_, rfl⟩, q⟩
end
end Cv

/-! part K08T -/
set_option maxRecDepth 100000
set_option maxHeartbeats 4000000
namespace Cv
open PySem PySem.Spec PyProof.Rows L2
def topS (i : Nat) : Stmt := PySem.Challenge.pw_copyover_k08_contents_run.main.body.getD i (.Pass ⟨0, 0, 0, 0⟩)
abbrev sName : Stmt := topS 7
abbrev sHasNames : Stmt := topS 8
abbrev sCopy : Stmt := topS 12
abbrev sScript : Stmt := topS 13
abbrev sChkS : Stmt := topS 14
abbrev sPath : Stmt := topS 19
abbrev sFiles : Stmt := topS 20
abbrev sCont : Stmt := topS 21
abbrev sCheckContents : Stmt := topS 22
abbrev sSrtF : Stmt := topS 23
abbrev sRun : Stmt := topS 24
abbrev sJar : Stmt := topS 26
abbrev sDip : Stmt := topS 27
abbrev sNames : Stmt := topS 28
abbrev sPlan : Stmt := topS 29
abbrev sLPath : Stmt := topS 30
abbrev sLCont : Stmt := topS 31
abbrev sLRun : Stmt := topS 32
abbrev sTurn : Stmt := topS 33
abbrev sLaw : Stmt := topS 34
/-- the built-in names that the text leaves alone -/
structure Bl (mg : Str → Option Value) : Prop where
  len : mg "len" = none
  list : mg "list" = none
  tuple : mg "tuple" = none
  range : mg "range" = none
  abs : mg "abs" = none
  max : mg "max" = none
  min : mg "min" = none
  int : mg "int" = none
  isi : mg "isinstance" = none
  str : mg "str" = none
  all : mg "all" = none
  repr : mg "repr" = none
  set : mg "set" = none
  sorted : mg "sorted" = none
  dict : mg "dict" = none
end Cv

/-! part K08A -/
set_option maxRecDepth 100000
set_option maxHeartbeats 4000000
namespace Cv
open PySem PySem.Spec PyProof.Rows L2
/-! ### draws -/
/-- what a jar holds: the digits left, the seed, the count (at most n) -/
def JarL (l : List V) (n : Nat) : Prop := ∃ x y z : Int, l = [.int x, .int y, .int z] ∧ 0 ≤ x ∧ 0 ≤ y ∧ y < 10 ^ 39 ∧ 0 ≤ z ∧ z ≤ n
def spDip : Sp := fun vs H Q _ => ∃ (j : Addr) (l : List V) (m : Int) (n : Nat), vs = [.ref j, .int m] ∧ H j = some (.lst l) ∧ JarL l n ∧ n ≤ 10 ^ 9 ∧ 1 ≤ m ∧ m < 2 ^ 70 ∧
  ∀ (r : Int) (l' : List V), 0 ≤ r → r < m → JarL l' (n + 1) → Q (.int r) (upd H j (.lst l'))
section
variable {P : Program} {w : World} {K : PySem.W.Frag} {mg : Str → Option Value} {base : Heap}
theorem scD : FnScope ["jar", "many", "digit", "mixed"] ["jar", "many"] (defScope sDip) := ⟨rfl, rfl, rfl, by decide +kernel, rfl, by decide +kernel, by decide +kernel⟩
theorem sqOf {H : Hp} {a : Addr} {xs : List V} (h : H a = some (.lst xs)) : SqL K H a xs := .inl (.inl h)
theorem stOf {H : Hp} {a : Addr} {xs : List V} (h : H a = some (.tup xs)) : SqT K H a xs := .inl (.inl h)
theorem p41 : (0 : Int) < 10 ^ (41 : Int).toNat + 37 := by decide
theorem p40 : (0 : Int) < 10 ^ (40 : Int).toNat + 121 := by decide
theorem p6 : (0 : Int) < 10 ^ (6 : Int).toNat ∧ (10 : Int) ^ (6 : Int).toNat < 1073741824 := by decide
theorem e41 : (10 : Int) ^ (41 : Int).toNat + 37 = 100000000000000000000000000000000000000037 := by decide
theorem e40 : (10 : Int) ^ (40 : Int).toNat + 121 = 10000000000000000000000000000000000000121 := by decide
theorem bitsLe {i : Int} {n k : Nat} (h0 : 0 ≤ i) (h : i < 2 ^ n) (hk : n * k ≤ 2 ^ 27) (hk0 : 0 ≤ (k : Int)) : 0 ≤ (k : Int) ∧ (Builtin.Int.intBits i : Int) * (k : Int) ≤ 2 ^ 27 := by
  have h1 : i.natAbs < 2 ^ n := by
    have e : ((2 : Int) ^ n) = ((2 ^ n : Nat) : Int) := by simp
    omega
  have h2 := bits_of h1
  refine ⟨hk0, ?_⟩
  have h3 : Builtin.Int.intBits i * k ≤ 2 ^ 27 := Nat.le_trans (Nat.mul_le_mul_right k h2) hk
  have h4 : ((Builtin.Int.intBits i * k : Nat) : Int) ≤ ((2 ^ 27 : Nat) : Int) := by exact_mod_cast h3
  simpa using h4
theorem bitsMix {t M c : Int} (hM : 0 < M) (hM2 : M ≤ 2 ^ 139) (hc : 0 ≤ c) (hc2 : c < 2 ^ 100) : 0 ≤ (2 : Int) ∧ (Builtin.Int.intBits (t % M + c) : Int) * 2 ≤ 2 ^ 27 := by
  have a1 := Int.emod_nonneg t (show M ≠ 0 by omega)
  have a2 := Int.emod_lt_of_pos t hM
  exact bitsLe (n := 140) (k := 2) (by omega) (by omega) (by decide) (by decide)
theorem ok_dip {f : Addr} {fd : FuncData} (F : Fun K "_law_dip" "_law_dip" sDip f fd) : FnOk P w K mg base CX0 1 f fd ["jar", "many"] spDip := by
  refine F.ok scD (fun vs H Q E h => ?_) (fun cdv A outer s H vs Q E hr h => ?_)
  · obtain ⟨j, l, m, n, rfl, _⟩ := h
    rfl
  · obtain ⟨j, l, m, n, rfl, hj, ⟨x, y, z, rfl, hx, hy, hy2, hz, hz2⟩, hn, hm, hm2, q⟩ := h
    refine ⟨_, pss_cons (ps_if (pt_cmpR op_gt (pe_ix ix_list (pv 0) pe_int (fun _ _ => rfl)) pe_int (nomark _))
        (pss_cons (ps_set (i := 2) scD.nd rfl (.inl rfl) (pe_op op_mod (pe_ix ix_list (pv 0) pe_int (fun _ _ => rfl)) (pv 1)))
        (pss_cons (ps_asg (pe_op op_fdivW (pe_ix ix_list (pv 0) pe_int (fun _ _ => rfl)) (pv 1)) (pg_sub (pv 0) pe_int set_list))
        (pss_one (ps_ret (pv 2))))) pss_nil)
      (pss_cons (ps_asg (pe_op op_add (pe_ix ix_list (pv 0) pe_int (fun _ _ => rfl)) pe_int) (pg_sub (pv 0) pe_int set_list))
      (pss_cons (ps_set (i := 3) scD.nd rfl (.inl rfl) (pe_op op_mod (pe_op op_powB (pe_op op_add (pe_ix ix_list (pv 0) pe_int (fun _ _ => rfl)) (pe_op op_mul pe_int (pe_ix ix_list (pv 0) pe_int (fun _ _ => rfl)))) pe_int) (pe_op op_add (pe_op op_pow pe_int pe_int) pe_int)))
      (pss_cons (ps_set (i := 3) scD.nd rfl (.inl rfl) (pe_op op_mod (pe_op op_powB (pe_op op_add (pv 3) (pe_op op_mul pe_int (pe_ix ix_list (pv 0) pe_int (fun _ _ => rfl)))) pe_int) (pe_op op_add (pe_op op_pow pe_int pe_int) pe_int)))
      (pss_one (ps_ret (pe_op op_mod (pe_op op_fdiv (pv 3) (pe_op op_pow pe_int pe_int)) (pv 1))))))), ?_⟩
    have S0 := sqOf (K := K) hj
    -- jar[0] > 0
    refine ⟨_, rfl, j, _, 0, _, rfl, rfl, S0, rfl, x, 0, rfl, rfl, _, rfl, ite2 (fun hgt => ?_) (fun hng => ?_)⟩
    · have hgt' : 0 < x := of_decide_eq_true hgt
      have hd : CDivW x m := wide_div (by omega) (b := 70) (by omega) (by decide) (by decide)
      refine ⟨_, rfl, j, _, 0, _, rfl, rfl, S0, rfl, _, rfl, x, m, rfl, rfl, (show (0 : Int) < m by omega), ?_⟩
      refine ⟨_, rfl, j, _, 0, _, rfl, rfl, S0, rfl, _, rfl, x, m, rfl, rfl, hd, ?_⟩
      refine ⟨_, rfl, j, _, 0, 0, rfl, rfl, hj, rfl, ?_⟩
      refine ⟨_, rfl, q _ _ (Int.emod_nonneg x (by omega)) (Int.emod_lt_of_pos x (by omega)) ⟨x / m, y, z, rfl, Int.ediv_nonneg hx (by omega), hy, hy2, hz, by omega⟩⟩
    · -- jar[2] = jar[2] + 1
      refine ⟨_, rfl, j, _, 2, _, rfl, rfl, S0, rfl, z, 1, rfl, rfl, ?_⟩
      refine ⟨_, rfl, j, _, 2, 2, rfl, rfl, hj, rfl, ?_⟩
      have S1 := sqOf (K := K) (upd_same (H := H) (a := j) (o := .lst [.int x, .int y, .int (z + 1)]))
      -- mixed, twice
      refine ⟨_, rfl, j, _, 1, _, rfl, rfl, S1, rfl, _, rfl, j, _, 2, _, rfl, rfl, S1, rfl, 675248027, z + 1, rfl, rfl, .inl ⟨by decide, by decide⟩, y, _, rfl, rfl, ?_⟩
      refine ⟨_, 3, rfl, rfl, bitsLe (n := 131) (k := 3) (by omega) (by omega) (by decide) (by decide), ?_⟩
      refine ⟨10, 41, rfl, rfl, ⟨by decide, by decide, by decide⟩, _, 37, rfl, rfl, _, _, rfl, rfl, p41, ?_⟩
      refine ⟨_, rfl, _, rfl, j, _, 2, _, rfl, rfl, S1, rfl, 314606891, z + 1, rfl, rfl, .inl ⟨by decide, by decide⟩, _, _, rfl, rfl, ?_⟩
      refine ⟨_, 2, rfl, rfl, bitsMix p41 (by decide) (by omega) (by omega), ?_⟩
      refine ⟨10, 40, rfl, rfl, ⟨by decide, by decide, by decide⟩, _, 121, rfl, rfl, _, _, rfl, rfl, p40, ?_⟩
      refine ⟨_, rfl, 10, 6, rfl, rfl, ⟨by decide, by decide, by decide⟩, _, _, rfl, rfl, p6, _, rfl, _, m, rfl, rfl, (show (0 : Int) < m by omega), ?_⟩
      exact q _ _ (Int.emod_nonneg _ (by omega)) (Int.emod_lt_of_pos _ (by omega)) ⟨x, y, z + 1, rfl, hx, hy, hy2, by omega, by omega⟩
end
end Cv


/-! part K08C -/
set_option maxRecDepth 100000
set_option maxHeartbeats 4000000
namespace Cv
open PySem PySem.Spec PyProof.Rows L2
/-! ### names -/
def IsNm (y : Str) : Prop := 1 ≤ y.length ∧ y.length ≤ 8 ∧ ∀ c ∈ y.cps.toList, 97 ≤ c ∧ c ≤ 122
def Last (y : Str) : Prop := ∃ c, y.cps.toList.getLast? = some c ∧ c ≤ 116
def Names (ys : List Str) (m : Int) : Prop := (ys.length : Int) = m ∧ ys.Nodup ∧ (∀ y ∈ ys, IsNm y) ∧ ∀ y ∈ ys, Last y
def spNames : Sp := fun vs H Q _ => ∃ (j : Addr) (l : List V) (m : Int) (n : Nat), vs = [.ref j, .int m] ∧ H j = some (.lst l) ∧ JarL l n ∧ n ≤ 10 ^ 8 ∧ 1 ≤ m ∧ m ≤ 20 ∧
  ∀ (p : Addr) (ys : List Str) (l' : List V) (H' : Hp), Names ys m → H' p = some (.tup (ys.map V.str)) → H' j = some (.lst l') → JarL l' (n + 200) → Eff j H H' → Q (.ref p) H'
/-- one sign -/
def sg (c : Nat) : Str := ⟨#[c]⟩
theorem JarL.mono {l : List V} {n n' : Nat} (h : JarL l n) (hn : n ≤ n') : JarL l n' := by
  obtain ⟨x, y, z, e, a, b, c, d, f⟩ := h
  exact ⟨x, y, z, e, a, b, c, d, by omega⟩
theorem erase_map {α β : Type} (f : α → β) : ∀ (l : List α) (k : Nat), (l.map f).eraseIdx k = (l.eraseIdx k).map f
  | [], _ => rfl
  | _ :: _, 0 => rfl
  | a :: l, k + 1 => by
    show f a :: (l.map f).eraseIdx k = f a :: (l.eraseIdx k).map f
    rw [erase_map f l k]
theorem erase_out {α : Type} : ∀ (l : List α) (k : Nat) (a : α), l.Nodup → l[k]? = some a → a ∉ l.eraseIdx k
  | [], _, _, _, h => by simp at h
  | b :: l, 0, a, nd, h => by
    have e : b = a := Option.some.inj h
    subst e
    exact (List.nodup_cons.mp nd).1
  | b :: l, k + 1, a, nd, h => by
    have h' : l[k]? = some a := h
    intro m
    rcases List.mem_cons.mp (show a ∈ b :: l.eraseIdx k from m) with e | m
    · subst e
      exact (List.nodup_cons.mp nd).1 (List.mem_of_getElem? h')
    · exact erase_out l k a (List.nodup_cons.mp nd).2 h' m
theorem erase_len {α : Type} : ∀ (l : List α) (k : Nat), k < l.length → (l.eraseIdx k).length + 1 = l.length
  | [], _, h => by simp at h
  | _ :: l, 0, _ => rfl
  | _ :: l, k + 1, h => by
    show (l.eraseIdx k).length + 1 + 1 = l.length + 1
    rw [erase_len l k (by simpa using h)]
theorem pick4 {r : Int} (h0 : 0 ≤ r) (h : r < 4) : ∃ s : Int, atI [V.int 0, V.int 0, V.int 1, V.int 7] r = some (.int s) ∧ 0 ≤ s ∧ s ≤ 7 := by
  have h4 : r = 0 ∨ r = 1 ∨ r = 2 ∨ r = 3 := by omega
  rcases h4 with rfl | rfl | rfl | rfl
  · exact ⟨0, rfl, by decide, by decide⟩
  · exact ⟨0, rfl, by decide, by decide⟩
  · exact ⟨1, rfl, by decide, by decide⟩
  · exact ⟨7, rfl, by decide, by decide⟩
theorem abzC : (Str.ofString "abz").cps.toList = [97, 98, 122] := by decide +kernel
theorem pick3 {r : Int} (h0 : 0 ≤ r) (h : r < 3) : ∃ c : Nat, atI (Str.ofString "abz").cps.toList r = some c ∧ 97 ≤ c ∧ c ≤ 122 := by
  rw [abzC]
  have h4 : r = 0 ∨ r = 1 ∨ r = 2 := by omega
  rcases h4 with rfl | rfl | rfl
  · exact ⟨97, rfl, by decide, by decide⟩
  · exact ⟨98, rfl, by decide, by decide⟩
  · exact ⟨122, rfl, by decide, by decide⟩
theorem atI_in {α : Type} {xs : List α} {i : Int} (h0 : 0 ≤ i) (h : i < xs.length) : ∃ (m : Nat) (x : α), i = (m : Int) ∧ xs[m]? = some x ∧ atI xs i = some x := by
  obtain ⟨m, rfl⟩ : ∃ m : Nat, i = (m : Int) := ⟨i.toNat, by omega⟩
  have hm : m < xs.length := by omega
  exact ⟨m, xs[m], rfl, List.getElem?_eq_getElem hm, atI_nat (List.getElem?_eq_getElem hm)⟩
theorem seqIx_nat {m n : Nat} (h : m < n) : seqIndex? (m : Int) n = some m := by
  unfold seqIndex?
  simp only []
  split <;> first | omega | (simp; omega) | simp_all
/-- the text of letters, glued -/
theorem glue_ok {cs : List Nat} (hc : ∀ c ∈ cs, 97 ≤ c ∧ c ≤ 122) : (Txt.join (Str.ofString "") (cs.map sg)).length = cs.length ∧ ∀ c ∈ (Txt.join (Str.ofString "") (cs.map sg)).cps.toList, 97 ≤ c ∧ c ≤ 122 := by
  constructor
  · rw [PySem.W.KT.join_ones]
    · rw [List.length_map]
    · intro a ha
      obtain ⟨c, _, rfl⟩ := List.mem_map.mp ha
      rfl
  · intro c h
    have e : Txt.join (Str.ofString "") (cs.map sg) = Str.join (Str.ofString "") (cs.map sg) := by
      have := PyProof.Rows.join_plain_closes (Str.ofString "") (cs.map sg)
      simpa using this
    rw [e, PyProof.Rows.mem_join] at h
    rcases h with ⟨t, ht, hct⟩ | ⟨_, hct⟩
    · obtain ⟨d, hd, rfl⟩ := List.mem_map.mp ht
      have : c = d := by simpa [sg] using hct
      subst this
      exact hc c hd
    · rw [show (Str.ofString "").cps.toList = [] by decide +kernel] at hct
      exact nomatch hct
/-- a front and a letter -/
theorem nm_of {x : Str} {c : Nat} (hx : x.length ≤ 7) (hl : ∀ c ∈ x.cps.toList, 97 ≤ c ∧ c ≤ 122) (hc : 97 ≤ c ∧ c ≤ 122) : IsNm (x ++ sg c) ∧ (x ++ sg c).cps.toList.getLast? = some c := by
  have e : (x ++ sg c).cps.toList = x.cps.toList ++ [c] := by
    rw [Str.cps_append, Array.toList_append]
    rfl
  have el : (x ++ sg c).length = x.length + 1 := by
    rw [strLen_append]
    rfl
  refine ⟨⟨by omega, by omega, fun d hd => ?_⟩, by rw [e]; simp⟩
  rw [e] at hd
  rcases List.mem_append.mp hd with h | h
  · exact hl d h
  · have : d = c := by simpa using h
    subst this
    exact hc
end Cv


/-! part K08E -/
set_option maxRecDepth 100000
set_option maxHeartbeats 4000000
namespace Cv
open PySem PySem.Spec PyProof.Rows L2
/-! ### plans -/
abbrev Cp := Str × Str × Str
def cpV (c : Cp) : List V := [.str c.1, .str c.2.1, .str c.2.2]
def cpD (c : Cp) : PyData := .tuple [.str c.1, .str c.2.1, .str c.2.2]
def planD (cs : List Cp) : PyData := .tuple (cs.map cpD)
def Word (x : Str) : Prop := x = Str.ofString "over" ∨ x = Str.ofString "skip"
structure CpOk (ys : List Str) (c : Cp) : Prop where
  w : Word c.1
  a : c.2.1 ∈ ys
  b : c.2.2 ∈ ys
  n : c.2.1 ≠ c.2.2
structure Plan (cs : List Cp) (ys : List Str) (mo : Int) : Prop where
  l : (cs.length : Int) ≤ mo
  c : ∀ c ∈ cs, CpOk ys c
  e : ys.length ≤ 1 → cs = []
def CpAt (H : Hp) (p : Addr) (c : Cp) : Prop := H p = some (.tup (cpV c))
def KeepT (H H' : Hp) : Prop := ∀ b xs, H b = some (.tup xs) → H' b = some (.tup xs)
theorem KeepT.trans {H H1 H2 : Hp} (a : KeepT H H1) (b : KeepT H1 H2) : KeepT H H2 := fun x o e => b x o (a x o e)
theorem KeepT.eff {H H' : Hp} {j : Addr} {l : List V} (e : Eff j H H') (hj : H j = some (.lst l)) : KeepT H H' := fun b xs h => e b _ (fun z => by
  subst z
  rw [hj] at h
  cases h) h
theorem KeepT.updL {H H' : Hp} {j : Addr} {l l' : List V} (k : KeepT H H') (hj : H' j = some (.lst l)) : KeepT H (upd H' j (.lst l')) := fun b xs h => by
  have h' := k b xs h
  rw [upd_ne (fun z => by
    subst z
    rw [hj] at h'
    cases h')]
  exact h'
theorem KeepT.updN {H H' : Hp} {p : Addr} {o : HO} (k : KeepT H H') (hp : H' p = none) : KeepT H (upd H' p o) := fun b xs h => (upd_ne (ne_of_none (k b xs h) hp)).trans (k b xs h)
theorem paired_snoc {α β : Type} {R : α → β → Prop} : ∀ {l : List α} {m : List β} {a : α} {b : β}, Paired R l m → R a b → Paired R (l ++ [a]) (m ++ [b])
  | _, _, _, _, .nil, r => .cons r .nil
  | _, _, _, _, .cons h t, r => .cons h (paired_snoc t r)
theorem str_dx {K : PySem.W.Frag} {H : Hp} {j : Addr} (c : Cp) : DxAll K H j (cpV c) [.str c.1, .str c.2.1, .str c.2.2] := .cons (.str _) (.cons (.str _) (.cons (.str _) .nil))
theorem plan_dx {K : PySem.W.Frag} {H : Hp} {j : Addr} {l : List V} (hj : H j = some (.lst l)) : ∀ {ps : List Addr} {cs : List Cp}, Paired (CpAt H) ps cs → DxAll K H j (ps.map V.ref) (cs.map cpD)
  | _, _, .nil => .nil
  | _, _, .cons (a := p) (b := c) h t => .cons (.tup (ne_of (show H p = some (.tup (cpV c)) from h) hj (fun z => nomatch z)) (.inl (.inl h)) (str_dx c)) (plan_dx hj t)
def spPlan (K : PySem.W.Frag) : Sp := fun vs H Q _ => ∃ (j a : Addr) (l : List V) (mo : Int) (n : Nat) (ys : List Str), vs = [.ref j, .ref a, .int mo] ∧ H j = some (.lst l) ∧ JarL l n ∧ n ≤ 10 ^ 8 ∧
  SqT K H a (ys.map V.str) ∧ a ≠ j ∧ 1 ≤ ys.length ∧ ys.length ≤ 20 ∧ ys.Nodup ∧ 0 ≤ mo ∧ mo ≤ 200 ∧
  ∀ (p : Addr) (cs : List Cp) (l' : List V) (H' : Hp), Plan cs ys mo → Dx K H' j (.ref p) (planD cs) → H' j = some (.lst l') → JarL l' (n + 1700) → Eff j H H' → Q (.ref p) H'
theorem pickW {v : Int} (h0 : 0 ≤ v) (h : v < 2) : ∃ x : Str, atI [V.str (Str.ofString "over"), V.str (Str.ofString "skip")] v = some (.str x) ∧ Word x := by
  have h2 : v = 0 ∨ v = 1 := by omega
  rcases h2 with rfl | rfl
  · exact ⟨_, rfl, .inl rfl⟩
  · exact ⟨_, rfl, .inr rfl⟩
theorem pick012 {w d b : Int} (w0 : 0 ≤ w) (w1 : w < 3) (d0 : 0 ≤ d) (d1 : d < 2) (b0 : 0 ≤ b) (b1 : b < 2) : ∃ v : Int, atI [V.int d, V.int 0, V.int b] w = some (.int v) ∧ 0 ≤ v ∧ v < 2 := by
  have h3 : w = 0 ∨ w = 1 ∨ w = 2 := by omega
  rcases h3 with rfl | rfl | rfl
  · exact ⟨_, rfl, d0, d1⟩
  · exact ⟨_, rfl, by decide, by decide⟩
  · exact ⟨_, rfl, b0, b1⟩
theorem next_ne {o M : Int} (h0 : 0 ≤ o) (h1 : o < M) (h2 : 2 ≤ M) : 0 ≤ (o + 1) % M ∧ (o + 1) % M < M ∧ (o + 1) % M ≠ o := by
  refine ⟨Int.emod_nonneg _ (by omega), Int.emod_lt_of_pos _ (by omega), ?_⟩
  by_cases h : o + 1 < M
  · rw [Int.emod_eq_of_lt (by omega) h]
    omega
  · have e : o + 1 = M := by omega
    rw [e, Int.emod_self]
    omega
theorem atT {ys : List Str} {i : Int} (h0 : 0 ≤ i) (h : i < ys.length) : ∃ y, atI (ys.map V.str) i = some (V.str y) ∧ ys[i.toNat]? = some y := by
  obtain ⟨m, x, e, hx, ha⟩ := atI_in (xs := ys) h0 h
  subst e
  refine ⟨x, atI_nat (by rw [List.getElem?_map, hx]; rfl), by simpa using hx⟩
end Cv


/-! part K08N -/
set_option maxRecDepth 100000
set_option maxHeartbeats 4000000
namespace Cv
open PySem PySem.Spec PyProof.Rows L2
/-! ### sorted texts are one list -/
def leS (a b : Str) : Prop := ltCps b.cps.toList a.cps.toList = false
theorem leS_iff (a b : Str) : leS a b ↔ a.cps.toList ≤ b.cps.toList := by
  unfold leS
  rw [ltCps_eq, decide_eq_false_iff_not]
  exact Iff.rfl
theorem leS_trans {a b c : Str} (h : leS a b) (g : leS b c) : leS a c := by
  rw [leS_iff] at h g ⊢
  exact List.le_trans h g
theorem leS_anti {a b : Str} (h : leS a b) (g : leS b a) : a = b := by
  rw [leS_iff] at h g
  have e := List.le_antisymm h g
  obtain ⟨⟨x⟩⟩ := a
  obtain ⟨⟨y⟩⟩ := b
  have e' : x = y := e
  rw [e']
theorem pair_of_rising : ∀ (p : Str) (l : List Str), risingS p l = true → (p :: l).Pairwise leS
  | p, [], _ => List.pairwise_singleton _ _
  | p, x :: r, h => by
    have h2 : (!ltCps x.cps.toList p.cps.toList && risingS x r) = true := h
    rw [Bool.and_eq_true, Bool.not_eq_true'] at h2
    have ih := pair_of_rising x r h2.2
    refine List.pairwise_cons.mpr ⟨fun y hy => ?_, ih⟩
    rcases List.mem_cons.mp hy with rfl | hy
    · exact h2.1
    · exact leS_trans h2.1 ((List.pairwise_cons.mp ih).1 y hy)
theorem pair_of_sorted : ∀ (l : List Str), sortedS l = true → l.Pairwise leS
  | [], _ => List.Pairwise.nil
  | x :: r, h => pair_of_rising x r h
theorem sorted_one {l m n : List Str} (hl : sortedS l = true) (hm : sortedS m = true) (pl : l.Perm n) (pm : m.Perm n) : l = m :=
  (pl.trans pm.symm).eq_of_pairwise (fun a b _ _ h g => leS_anti h g) (pair_of_sorted l hl) (pair_of_sorted m hm)
/-! ### lists of folders -/
def jb (a b : List Str) : List Str := a ++ b.filter fun y => !decide (y ∈ a)
def upR (R : Str → List Str) (t : Str) (v : List Str) : Str → List Str := fun y => if y = t then v else R y
def stepR (R : Str → List Str) (c : Cp) : Str → List Str := if c.1 = Str.ofString "over" then upR R c.2.2 (jb (R c.2.1) (R c.2.2)) else upR R c.2.2 (jb (R c.2.2) (R c.2.1))
def runR (cs : List Cp) : Str → List Str := cs.foldl stepR fun y => [y]
theorem runR_take {cs : List Cp} {i : Nat} {c : Cp} (h : cs[i]? = some c) : runR (cs.take (i + 1)) = stepR (runR (cs.take i)) c := by
  unfold runR
  rw [List.take_add_one, h, List.foldl_append]
  rfl
theorem mem_jb {a b : List Str} {z : Str} : z ∈ jb a b ↔ z ∈ a ∨ z ∈ b := by
  unfold jb
  rw [List.mem_append, List.mem_filter]
  by_cases h : z ∈ a
  · simp [h]
  · simp [h]
theorem nodup_jb {a b : List Str} (ha : a.Nodup) (hb : b.Nodup) : (jb a b).Nodup := by
  unfold jb
  rw [List.nodup_append]
  refine ⟨ha, hb.sublist List.filter_sublist, fun x hx y hy e => ?_⟩
  have := (List.mem_filter.mp hy).2
  rw [← e, decide_eq_true hx] at this
  exact nomatch this
structure RowOk (ys l : List Str) (y : Str) : Prop where
  nd : l.Nodup
  sub : ∀ z ∈ l, z ∈ ys
  own : y ∈ l
def ROk (ys : List Str) (R : Str → List Str) : Prop := ∀ y ∈ ys, RowOk ys (R y) y
theorem nodup_sub_len : ∀ {l ys : List Str}, l.Nodup → (∀ z ∈ l, z ∈ ys) → l.length ≤ ys.length
  | [], _, _, _ => Nat.zero_le _
  | x :: l, ys, hn, hs => by
    obtain ⟨h1, h2⟩ := List.nodup_cons.mp hn
    have hx : x ∈ ys := hs x List.mem_cons_self
    have ih := nodup_sub_len (ys := ys.erase x) h2 fun z hz => (List.mem_erase_of_ne (fun (e : z = x) => h1 (e ▸ hz))).mpr (hs z (List.mem_cons_of_mem _ hz))
    rw [List.length_erase_of_mem hx] at ih
    have := List.length_pos_of_mem hx
    rw [List.length_cons]
    omega
theorem RowOk.len {ys l : List Str} {y : Str} (h : RowOk ys l y) : l.length ≤ ys.length := nodup_sub_len h.nd h.sub
theorem rok_up {ys : List Str} {R : Str → List Str} {t : Str} {v : List Str} (h : ROk ys R) (hv : RowOk ys v t) : ROk ys (upR R t v) := fun y hy => by
  unfold upR
  by_cases e : y = t
  · rw [if_pos e, e]
    exact hv
  · rw [if_neg e]
    exact h y hy
theorem row_jb {ys a b : List Str} {s t u : Str} (ha : RowOk ys a s) (hb : RowOk ys b t) (hu : u = s ∨ u = t) : RowOk ys (jb a b) u where
  nd := nodup_jb ha.nd hb.nd
  sub := fun z hz => by
    rcases mem_jb.mp hz with h | h
    · exact ha.sub z h
    · exact hb.sub z h
  own := by
    rcases hu with rfl | rfl
    · exact mem_jb.mpr (.inl ha.own)
    · exact mem_jb.mpr (.inr hb.own)
theorem rok_step {ys : List Str} {R : Str → List Str} {c : Cp} (h : ROk ys R) (hc : CpOk ys c) : ROk ys (stepR R c) := by
  unfold stepR
  split
  · exact rok_up h (row_jb (h _ hc.a) (h _ hc.b) (.inr rfl))
  · exact rok_up h (row_jb (h _ hc.b) (h _ hc.a) (.inl rfl))
theorem rok_zero (ys : List Str) : ROk ys fun y => [y] := fun y hy => ⟨by simp, fun z hz => by
  have : z = y := by simpa using hz
  rw [this]
  exact hy, by simp⟩
theorem rok_run {ys : List Str} : ∀ {cs : List Cp}, (∀ c ∈ cs, CpOk ys c) → ROk ys (runR cs) := by
  have key : ∀ (cs : List Cp) (R : Str → List Str), ROk ys R → (∀ c ∈ cs, CpOk ys c) → ROk ys (cs.foldl stepR R) := by
    intro cs
    induction cs with
    | nil => intro R h _; exact h
    | cons c cs ih => intro R h hc; exact ih _ (rok_step h (hc c List.mem_cons_self)) fun d hd => hc d (List.mem_cons_of_mem _ hd)
  exact fun {cs} h => key cs _ (rok_zero ys) h
/-! ### dicts of lists in the heap -/
abbrev kvR (ks : List Str) (ad : Str → Addr) : List (Key × V) := ks.map fun y => (Sum.inr y, V.ref (ad y))
theorem kv_val {ks : List Str} {ad : Str → Addr} {t : Str} (h : t ∈ ks) : valV (kvR ks ad) (Sum.inr t) = some (V.ref (ad t)) := by
  induction ks with
  | nil => cases h
  | cons y ks ih =>
    by_cases e : y = t
    · rw [← e]
      exact valV_pos rfl
    · rcases List.mem_cons.mp h with z | z
      · exact absurd z.symm e
      · show valV ((Sum.inr y, V.ref (ad y)) :: kvR ks ad) (Sum.inr t) = _
        rw [valV_neg (fun z2 => e (Sum.inr.inj z2))]
        exact ih z
theorem kv_none {ks : List Str} {ad : Str → Addr} {t : Str} (h : t ∉ ks) : valV (kvR ks ad) (Sum.inr t) = none := by
  induction ks with
  | nil => rfl
  | cons y ks ih =>
    show valV ((Sum.inr y, V.ref (ad y)) :: kvR ks ad) (Sum.inr t) = _
    rw [valV_neg (fun z2 => h (List.mem_cons.mpr (.inl (Sum.inr.inj z2).symm)))]
    exact ih fun m => h (List.mem_cons_of_mem _ m)
def upA (ad : Str → Addr) (t : Str) (p : Addr) : Str → Addr := fun y => if y = t then p else ad y
theorem kv_put {ks : List Str} {ad : Str → Addr} {t : Str} {p : Addr} (h : t ∈ ks) : putK (kvR ks ad) (Sum.inr t) (V.ref p) = kvR ks (upA ad t p) := by
  unfold putK
  rw [if_pos (by rw [valV_any, kv_val h]; rfl), kvR, kvR, List.map_map]
  refine List.map_congr_left fun y _ => ?_
  show (if (Sum.inr y : Key) = Sum.inr t then _ else _) = ((Sum.inr y : Key), V.ref (if y = t then p else ad y))
  by_cases e : y = t
  · rw [if_pos (congrArg Sum.inr e), if_pos e]
  · rw [if_neg (fun z => e (Sum.inr.inj z)), if_neg e]
theorem kv_add {ks : List Str} {ad : Str → Addr} {t : Str} {p : Addr} (h : t ∉ ks) : putK (kvR ks ad) (Sum.inr t) (V.ref p) = kvR (ks ++ [t]) (upA ad t p) := by
  rw [putK_new _ (kv_none h), kvR, kvR, List.map_append]
  congr 1
  · refine List.map_congr_left fun y hy => ?_
    show _ = ((Sum.inr y : Key), V.ref (if y = t then p else ad y))
    rw [if_neg (fun (e : y = t) => h (e ▸ hy))]
  · show [_] = [((Sum.inr t : Key), V.ref (if t = t then p else ad t))]
    rw [if_pos rfl]
/-- a dict of new lists, made since H0 -/
structure RowsAt (H0 H : Hp) (d : Addr) (ks : List Str) (ad : Str → Addr) (R : Str → List Str) : Prop where
  at_ : H d = some (.dK (kvR ks ad))
  rows : ∀ y ∈ ks, H (ad y) = some (.lst ((R y).map V.str))
  fd : H0 d = none
  fr : ∀ y ∈ ks, H0 (ad y) = none
theorem RowsAt.same {H0 H H' : Hp} {d : Addr} {ks : List Str} {ad : Str → Addr} {R : Str → List Str} (h : RowsAt H0 H d ks ad R) (e : Same H H') : RowsAt H0 H' d ks ad R :=
  ⟨e _ _ h.at_, fun y hy => e _ _ (h.rows y hy), h.fd, h.fr⟩
theorem RowsAt.from {H1 H0 H : Hp} {d : Addr} {ks : List Str} {ad : Str → Addr} {R : Str → List Str} (h : RowsAt H0 H d ks ad R) (e : Same H1 H0) : RowsAt H1 H d ks ad R :=
  ⟨h.at_, h.rows, e.free h.fd, fun y hy => e.free (h.fr y hy)⟩
theorem ne_row {H : Hp} {d p : Addr} {kvs : List (Key × V)} {xs : List V} (h1 : H d = some (.dK kvs)) (h2 : H p = some (.lst xs)) : p ≠ d := fun e => by
  rw [e, h1] at h2
  cases h2
theorem RowsAt.put {H0 H : Hp} {d p : Addr} {ks : List Str} {ad : Str → Addr} {R : Str → List Str} {t : Str} {v : List Str} (h : RowsAt H0 H d ks ad R) (ht : t ∈ ks) (hp : H p = some (.lst (v.map V.str))) (fp : H0 p = none) :
    RowsAt H0 (upd H d (.dK (putK (kvR ks ad) (Sum.inr t) (V.ref p)))) d ks (upA ad t p) (upR R t v) := by
  rw [kv_put ht]
  refine ⟨upd_same, fun y hy => ?_, h.fd, fun y hy => ?_⟩
  · show upd H d _ (if y = t then p else ad y) = some (.lst ((if y = t then v else R y).map V.str))
    by_cases e : y = t
    · rw [if_pos e, if_pos e, upd_ne (ne_row h.at_ hp), hp]
    · rw [if_neg e, if_neg e, upd_ne (ne_row h.at_ (h.rows y hy)), h.rows y hy]
  · show H0 (if y = t then p else ad y) = none
    by_cases e : y = t
    · rw [if_pos e]; exact fp
    · rw [if_neg e]; exact h.fr y hy
theorem RowsAt.add {H0 H : Hp} {d p : Addr} {ks : List Str} {ad : Str → Addr} {R : Str → List Str} {t : Str} (h : RowsAt H0 H d ks ad R) (ht : t ∉ ks) (hp : H p = some (.lst ((R t).map V.str))) (fp : H0 p = none) :
    RowsAt H0 (upd H d (.dK (putK (kvR ks ad) (Sum.inr t) (V.ref p)))) d (ks ++ [t]) (upA ad t p) R := by
  rw [kv_add ht]
  have cs : ∀ y ∈ ks ++ [t], y = t ∨ (y ≠ t ∧ y ∈ ks) := fun y hy => by
    by_cases e : y = t
    · exact .inl e
    · rcases List.mem_append.mp hy with z | z
      · exact .inr ⟨e, z⟩
      · exact absurd (by simpa using z) e
  refine ⟨upd_same, fun y hy => ?_, h.fd, fun y hy => ?_⟩
  · show upd H d _ (if y = t then p else ad y) = _
    rcases cs y hy with e | ⟨e, m⟩
    · rw [if_pos e, upd_ne (ne_row h.at_ hp), hp, e]
    · rw [if_neg e, upd_ne (ne_row h.at_ (h.rows y m)), h.rows y m]
  · show H0 (if y = t then p else ad y) = none
    rcases cs y hy with e | ⟨e, m⟩
    · rw [if_pos e]; exact fp
    · rw [if_neg e]; exact h.fr y m
/-- the data of such a dict -/
def rowD (l : List Str) : PyData := .list (l.map .str)
def rowsD (ks : List Str) (R : Str → List Str) : PyData := .dict (ks.map fun y => (.str y, rowD (R y)))
theorem strs_dx {K : PySem.W.Frag} {H : Hp} {j : Addr} : ∀ (l : List Str), DxAll K H j (l.map V.str) (l.map .str)
  | [] => .nil
  | y :: l => .cons (.str y) (strs_dx l)
theorem row_dx {K : PySem.W.Frag} {H : Hp} {j a : Addr} {l : List Str} (h : H a = some (.lst (l.map V.str))) (n : a ≠ j) : Dx K H j (.ref a) (rowD l) := .lst n (.inl (.inl h)) (strs_dx l)
theorem RowsAt.dx {K : PySem.W.Frag} {H0 H : Hp} {d j : Addr} {ks : List Str} {ad : Str → Addr} {R : Str → List Str} {o : HO} (h : RowsAt H0 H d ks ad R) (hj : H0 j = some o) : Dx K H j (.ref d) (rowsD ks R) := by
  have nj : ∀ {a : Addr}, H0 a = none → a ≠ j := fun z e => by rw [e, hj] at z; cases z
  refine .dic (nj h.fd) h.at_ ?_
  have key : ∀ (l : List Str), (∀ y ∈ l, H (ad y) = some (.lst ((R y).map V.str)) ∧ H0 (ad y) = none) → DxKv K H j (kvR l ad) (l.map fun y => (.str y, rowD (R y))) := by
    intro l
    induction l with
    | nil => intro _; exact .nil
    | cons y l ih => intro hl; exact .cons (row_dx (hl y List.mem_cons_self).1 (nj (hl y List.mem_cons_self).2)) (ih fun z hz => hl z (List.mem_cons_of_mem _ hz))
  exact key ks fun y hy => ⟨h.rows y hy, h.fr y hy⟩
end Cv


/-! part K08G -/
set_option maxRecDepth 100000
set_option maxHeartbeats 4000000
namespace Cv
open PySem PySem.Spec PyProof.Rows L2
/-! ### what the program says of data -/
def letter (c : Nat) : Bool := decide (97 ≤ c) && decide (c ≤ 122)
def nmB (x : Str) : Bool := decide (1 ≤ x.length) && decide (x.length ≤ 8) && x.cps.toList.all letter
def isNameD : PyData → Bool
  | .str x => nmB x
  | _ => false
def wordB (x : Str) : Bool := decide (x = Str.ofString "over") || decide (x = Str.ofString "skip")
def wordD : PyData → Bool
  | .str x => wordB x
  | _ => false
def sameD : PyData → PyData → Bool
  | .str x, .str y => decide (x = y)
  | _, _ => false
def isCopyD : PyData → Bool
  | .tuple [a, b, c] => wordD a && (isNameD b && (isNameD c && !sameD b c))
  | _ => false
def isScriptD : PyData → Bool
  | .tuple ds => decide (ds.length ≤ 200) && ds.all isCopyD
  | _ => false
/-! its texts are short -/
mutual
def smD : PyData → Bool
  | .str x => decide (x.length ≤ 10000)
  | .list ds => smAll ds
  | .tuple ds => smAll ds
  | .dict es => smKv es
  | .none => true
  | .bool _ => true
  | .int _ => true
def smAll : List PyData → Bool
  | [] => true
  | d :: ds => smD d && smAll ds
def smKv : List (PyData × PyData) → Bool
  | [] => true
  | (k, d) :: es => smD k && smD d && smKv es
end
theorem smAll_mem : ∀ {ds : List PyData} {d : PyData}, smAll ds = true → d ∈ ds → smD d = true
  | [], _, _, h => nomatch h
  | e :: ds, d, h, m => by
    have h' : smD e = true ∧ smAll ds = true := by simpa [smAll] using h
    rcases List.mem_cons.mp m with z | z
    · rw [z]; exact h'.1
    · exact smAll_mem h'.2 z
def tyN : PyData → String
  | .none => "NoneType"
  | .bool _ => "bool"
  | .int _ => "int"
  | .str _ => "str"
  | .list _ => "list"
  | .tuple _ => "tuple"
  | .dict _ => "dict"
def isStr : PyData → Bool
  | .str _ => true
  | _ => false
def isTup : PyData → Bool
  | .tuple _ => true
  | _ => false
section
variable {K : PySem.W.Frag} {H : Hp} {j : Addr} {v : V} {d : PyData}
theorem Dx.ty (h : Dx K H j v d) : TyX K H v (.type (tyN d)) := by
  cases h with
  | non => exact .base .non
  | bl b => exact .base (.bl b)
  | int i => exact .base (.int i)
  | str x => exact .base (.str x)
  | lst _ hs _ =>
    rcases hs with (h | ⟨o, h⟩) | ⟨o, _, _, h1, h2, _⟩
    · exact .base (.lst h)
    · exact .base (.frz h)
    · exact .kList h1 h2
  | tup _ hs _ =>
    rcases hs with (h | ⟨o, h⟩) | ⟨o, _, _, h1, h2, _⟩
    · exact .base (.tup h)
    · exact .fTuple h
    · exact .kTuple h1 h2
  | dic _ hs _ => exact .base (.dK hs)
theorem kit_str : ∀ d : PyData, kitB (tyN d) "str" = some (isStr d)
  | .none => by decide +kernel
  | .bool _ => by show kitB "bool" "str" = some false; decide +kernel
  | .int _ => by show kitB "int" "str" = some false; decide +kernel
  | .str _ => by show kitB "str" "str" = some true; decide +kernel
  | .list _ => by show kitB "list" "str" = some false; decide +kernel
  | .tuple _ => by show kitB "tuple" "str" = some false; decide +kernel
  | .dict _ => by show kitB "dict" "str" = some false; decide +kernel
theorem kit_tup : ∀ d : PyData, kitB (tyN d) "tuple" = some (isTup d)
  | .none => by decide +kernel
  | .bool _ => by show kitB "bool" "tuple" = some false; decide +kernel
  | .int _ => by show kitB "int" "tuple" = some false; decide +kernel
  | .str _ => by show kitB "str" "tuple" = some false; decide +kernel
  | .list _ => by show kitB "list" "tuple" = some false; decide +kernel
  | .tuple _ => by show kitB "tuple" "tuple" = some true; decide +kernel
  | .dict _ => by show kitB "dict" "tuple" = some false; decide +kernel
theorem rd_str {Q : VK} (h : Dx K H j v d) (q : Q (.bl (isStr d)) H) : rIsi K [v, .ty "str"] H Q := ⟨v, .ty "str", _, _, _, rfl, .ty "str", h.ty, kit_ty (kit_str d), q⟩
theorem rd_tup {Q : VK} (h : Dx K H j v d) (q : Q (.bl (isTup d)) H) : rIsi K [v, .ty "tuple"] H Q := ⟨v, .ty "tuple", _, _, _, rfl, .ty "tuple", h.ty, kit_ty (kit_tup d), q⟩
end
theorem DxAll.len {K : PySem.W.Frag} {H : Hp} {j : Addr} : ∀ {vs : List V} {ds : List PyData}, DxAll K H j vs ds → vs.length = ds.length
  | _, _, .nil => rfl
  | _, _, .cons _ t => by rw [List.length_cons, List.length_cons, DxAll.len t]
theorem DxAll.get {K : PySem.W.Frag} {H : Hp} {j : Addr} : ∀ {vs : List V} {ds : List PyData} {i : Nat} {v : V}, DxAll K H j vs ds → vs[i]? = some v → ∃ d, ds[i]? = some d ∧ Dx K H j v d
  | _, _, _, _, .nil, e => by simp at e
  | _, _, 0, _, .cons h _, e => by
    have e' := Option.some.inj e
    subst e'
    exact ⟨_, rfl, h⟩
  | _, _, i + 1, v, .cons _ t, e => DxAll.get (i := i) t e
/-- the module's constants -/
structure Gb (K : PySem.W.Frag) (mg : Str → Option Value) : Prop where
  ln : ∃ t, mg "LONGEST_NAME" = some (.int 8 t)
  mc : ∃ t, mg "MOST_COPIES" = some (.int 200 t)
  wd : ∃ a, mg "WORDS" = some (.ref a) ∧ ∀ H, SqT K H a [.str (Str.ofString "over"), .str (Str.ofString "skip")]
theorem sqOf0 {K : PySem.W.Frag} {H : Hp} {a : Addr} {xs : List V} (h : H a = some (.lst xs)) : SqL K H a xs := .inl (.inl h)
def spD (K : PySem.W.Frag) (g : PyData → Bool) : Sp := fun vs H Q _ => ∃ (j : Addr) (v : V) (d : PyData), vs = [v] ∧ Dx K H j v d ∧ smD d = true ∧ ∀ H', Same H H' → Q (.bl (g d)) H'
theorem lt1 (a b : Nat) : decide (([a] : List Nat) < [b]) = decide (a < b) := by
  have e : ([a] : List Nat) < [b] ↔ a < b := by
    rw [List.cons_lt_cons_iff]
    constructor
    · rintro (h | ⟨_, h⟩)
      · exact h
      · exact absurd h (by simp)
    · exact .inl
  by_cases h : a < b
  · rw [decide_eq_true h, decide_eq_true (e.mpr h)]
  · rw [decide_eq_false h, decide_eq_false (fun z => h (e.mp z))]
theorem letter_of (c : Nat) : (if (!decide (([c] : List Nat) < [97])) = true then !decide (([122] : List Nat) < [c]) else false) = letter c := by
  rw [lt1, lt1]
  unfold letter
  by_cases h : c < 97
  · rw [decide_eq_true h, decide_eq_false (show ¬ 97 ≤ c by omega)]
    rfl
  · rw [decide_eq_false h, decide_eq_true (show 97 ≤ c by omega)]
    by_cases h2 : 122 < c
    · rw [decide_eq_true h2, decide_eq_false (show ¬ c ≤ 122 by omega)]
      rfl
    · rw [decide_eq_false h2, decide_eq_true (show c ≤ 122 by omega)]
      rfl
section
variable {P : Program} {w : World} {K : PySem.W.Frag} {mg : Str → Option Value} {base : Heap}
theorem scNm : FnScope ["value", "sign"] ["value"] (defScope sName) := ⟨rfl, rfl, rfl, by decide +kernel, rfl, by decide +kernel, by decide +kernel⟩
theorem ok_name {f : Addr} {fd : FuncData} (F : Fun K "is_name" "is_name" sName f fd) (B : Bl mg) (G : Gb K mg) : FnOk P w K mg base CX0 1 f fd ["value"] (spD K isNameD) := by
  obtain ⟨t8, g8⟩ := G.ln
  refine F.ok scNm (fun vs H Q E h => ?_) (fun cdv A outer s H vs Q E hr h => ?_)
  · obtain ⟨j, v, d, rfl, _⟩ := h
    rfl
  · obtain ⟨j, v, d, rfl, hx, hsm, q⟩ := h
    refine ⟨_, pss_cons (ps_if (PW.pt (pw_or (pt_not (pt_val (pe_callB call_isi (by rfl) B.isi (by decide +kernel) (pa_cons (pv 0) (pa_cons (pe_bltn (v := .ty "str") (u := .type "str") (by rfl) B.str (by decide +kernel) rfl) pa_nil)))))
          (pw_or1 (pt_not (pt_chain op_le op_le pe_int (pe_callB call_len_str (by rfl) B.len PySem.boot_len (pa_cons (pv 0) pa_nil)) (pe_glob (v := .int 8) (by rfl) g8 ⟨_, rfl⟩))))))
        (pss_one (ps_ret pe_bl)) pss_nil)
      (pss_one (ps_ret (pe_callB (cr_all rfl) (by rfl) B.all (by decide +kernel) (pa_cons (pe_lc (own := [("sign", 1)]) (tt := tYes) rfl scNm.nd (pi_str (pv 0)) (blkOk_by (N := ["value", "sign"]) (sc := defScope sName) (by decide +kernel))
        (fun _ _ _ _ _ => pg_name (i := 1) scNm.nd rfl (.inl rfl)) (fun _ _ _ _ _ => pts_nil) (fun _ _ _ _ _ => pe_chain op_le_str op_le_str pe_str (pv 1) pe_str)) pa_nil)))), ?_⟩
    refine ⟨v, rfl, v, .ty "str", _, _, _, rfl, .ty "str", hx.ty, kit_ty (kit_str d), _, rfl, ?_⟩
    have no : isNameD d = false → ∀ H', Same H H' → Q (.bl false) H' := fun e H' h => by rw [← e]; exact q H' h
    cases hx with
    | str x =>
      have hl : x.length ≤ 10000 := by simpa [smD] using hsm
      refine ⟨_, rfl, x, rfl, Nat.le_trans hl (by decide), 1, _, rfl, rfl, _, rfl, ?_⟩
      show if decide ((1 : Int) ≤ (x.length : Int)) = true then _ else _
      refine ite2 (fun c => ?_) (fun c => ?_)
      · refine ⟨_, 8, rfl, rfl, _, rfl, ?_⟩
        show if (!decide ((x.length : Int) ≤ 8)) = true then _ else _
        refine ite2 (fun c2 => ?_) (fun c2 => ?_)
        · refine no ?_ H (Same.refl H)
          have : ¬ x.length ≤ 8 := by
            intro z
            rw [decide_eq_true (show (x.length : Int) ≤ 8 by omega)] at c2
            cases c2
          show nmB x = false
          unfold nmB
          rw [decide_eq_false this, Bool.and_false, Bool.false_and]
        · have l1 : 1 ≤ x.length := by have := of_decide_eq_true c; omega
          have l8 : x.length ≤ 8 := by
            by_cases z : (x.length : Int) ≤ 8
            · omega
            · rw [decide_eq_false z] at c2
              exact absurd rfl c2
          -- all([..])
          refine ⟨_, rfl, x, rfl, fun D nD => ?_⟩
          refine lc_it walk_str (fun i H' => H' D = some (.lst (((x.cps.toList.take i).map letter).map V.bl)) ∧ Same H H') ⟨upd_same, same_new nD⟩ (fun _ _ _ _ => trivial) ?_ ?_
          · rintro i y H1 H2 hi ⟨hD, e1⟩ ⟨rfl, c, hc, rfl⟩
            have hc' : x.cps.toList[i]? = some c := by rw [Array.getElem?_toList]; exact hc
            refine ⟨rfl, ⟨_, rfl, _, _, rfl, rfl, _, rfl, ?_⟩⟩
            have fin : ∃ acc, H2 D = some (.lst acc) ∧ acc.length < sizeLine ∧ (upd H2 D (.lst (acc ++ [V.bl (letter c)])) D = some (.lst (((x.cps.toList.take (i + 1)).map letter).map V.bl)) ∧ Same H (upd H2 D (.lst (acc ++ [V.bl (letter c)])))) := by
              refine ⟨_, hD, ?_, ?_, same_up e1 nD⟩
              · rw [List.length_map, List.length_map, List.length_take]
                have sz : x.cps.size ≤ 8 := l8
                exact small1000 (by omega)
              · rw [upd_same, List.take_add_one, hc', List.map_append, List.map_append]
                rfl
            rw [← letter_of] at fin
            show if (!decide (([c] : List Nat) < [97])) = true then _ else _
            by_cases k : (!decide (([c] : List Nat) < [97])) = true
            · rw [if_pos k] at fin ⊢
              exact ⟨_, _, rfl, rfl, fin⟩
            · rw [if_neg k] at fin ⊢
              exact fin
          · rintro H1 ⟨hD, e1⟩
            refine ⟨D, _, rfl, sqOf0 hD, ?_⟩
            have e : isNameD (.str x) = ((x.cps.toList.take x.cps.size).map letter).all id := by
              show nmB x = _
              unfold nmB
              rw [decide_eq_true l1, decide_eq_true l8, List.take_of_length_le (by simp), List.all_map]
              rfl
            rw [← e]
            exact q H1 e1
      · refine ⟨false, rfl, no ?_ H (Same.refl H)⟩
        have : ¬ 1 ≤ x.length := by
          intro z
          exact c (decide_eq_true (by omega))
        show nmB x = false
        unfold nmB
        rw [decide_eq_false this, Bool.false_and, Bool.false_and]
    | non => exact no rfl H (Same.refl H)
    | bl b => exact no rfl H (Same.refl H)
    | int i => exact no rfl H (Same.refl H)
    | lst _ _ _ => exact no rfl H (Same.refl H)
    | tup _ _ _ => exact no rfl H (Same.refl H)
    | dic _ _ _ => exact no rfl H (Same.refl H)
end
end Cv


/-! part K08H -/
set_option maxRecDepth 100000
set_option maxHeartbeats 4000000
namespace Cv
open PySem PySem.Spec PyProof.Rows L2
theorem inV_word (x : Str) : inV (.str x) [V.str (Str.ofString "over"), V.str (Str.ofString "skip")] = wordB x := by
  unfold inV wordB
  simp only [List.any_cons, List.any_nil, Bool.or_false]
  have e : ∀ y : Str, eqV (.str y) (.str x) = decide (x = y) := fun y => by
    by_cases h : x = y
    · subst h
      simp [eqV]
    · rw [decide_eq_false h]
      simp [eqV]
      exact fun z => h z.symm
  rw [e, e]
theorem copy_no {ds : List PyData} (h : ds.length ≠ 3) : isCopyD (.tuple ds) = false := by
  cases ds with
  | nil => rfl
  | cons a r =>
    cases r with
    | nil => rfl
    | cons b r =>
      cases r with
      | nil => rfl
      | cons c r =>
        cases r with
        | nil => exact absurd rfl h
        | cons _ _ => rfl
theorem nameStr {d : PyData} (h : isNameD d = true) : ∃ x, d = .str x := by
  cases d with
  | str x => exact ⟨x, rfl⟩
  | none => exact nomatch h
  | bool _ => exact nomatch h
  | int _ => exact nomatch h
  | list _ => exact nomatch h
  | tuple _ => exact nomatch h
  | dict _ => exact nomatch h
section
variable {P : Program} {w : World} {K : PySem.W.Frag} {mg : Str → Option Value} {base : Heap}
theorem dx_three {H : Hp} {j : Addr} {xs : List V} {ds : List PyData} (ha : DxAll K H j xs ds) (l : xs.length = 3) : ∃ x1 x2 x3 d1 d2 d3, xs = [x1, x2, x3] ∧ ds = [d1, d2, d3] ∧ Dx K H j x1 d1 ∧ Dx K H j x2 d2 ∧ Dx K H j x3 d3 := by
  cases ha with
  | nil => exact nomatch l
  | cons h1 t =>
    cases t with
    | nil => exact nomatch l
    | cons h2 t =>
      cases t with
      | nil => exact nomatch l
      | cons h3 t =>
        cases t with
        | nil => exact ⟨_, _, _, _, _, _, rfl, rfl, h1, h2, h3⟩
        | cons _ _ => simp at l
theorem scCp : FnScope ["value", "word", "source", "target"] ["value"] (defScope sCopy) := ⟨rfl, rfl, rfl, by decide +kernel, rfl, by decide +kernel, by decide +kernel⟩
theorem Dx.same {H H' : Hp} {j : Addr} {v : V} {d : PyData} (h : Dx K H j v d) (e : Same H H') : Dx K H' j v d := h.keep (Eff.same e) d v
theorem ok_copy {f : Addr} {fd : FuncData} (F : Fun K "is_copy" "is_copy" sCopy f fd) (B : Bl mg) (G : Gb K mg) (DN : Has P w K mg base CX0 1 "is_name" ["value"] (spD K isNameD)) :
    FnOk P w K mg base CX0 2 f fd ["value"] (spD K isCopyD) := by
  obtain ⟨aw, gw, sw⟩ := G.wd
  refine F.ok scCp (fun vs H Q E h => ?_) (fun cdv A outer s H vs Q E hr h => ?_)
  · obtain ⟨j, v, d, rfl, _⟩ := h
    rfl
  · obtain ⟨j, v, d, rfl, hx, hsm, q⟩ := h
    refine ⟨_, pss_cons (ps_if (PW.pt (pw_or (pt_not (pt_val (pe_callB call_isi (by rfl) B.isi (by decide +kernel) (pa_cons (pv 0) (pa_cons (pe_bltn (v := .ty "tuple") (u := .type "tuple") (by rfl) B.tuple (by decide +kernel) rfl) pa_nil)))))
          (pw_or1 (pt_cmpR op_ne (pe_callB call_len_seq (by rfl) B.len PySem.boot_len (pa_cons (pv 0) pa_nil)) pe_int (nomark _)))))
        (pss_one (ps_ret pe_bl)) pss_nil)
      (pss_cons (ps_asg (pv 0) (pg_tup rfl (pgs_cons (pg_name (i := 1) scCp.nd rfl (.inl rfl)) (pgs_cons (pg_name (i := 2) scCp.nd rfl (.inl rfl)) (pgs_cons (pg_name (i := 3) scCp.nd rfl (.inl rfl)) pgs_nil)))))
      (pss_cons (ps_if (PW.pt (pw_or (pt_not (pt_val (pe_callB call_isi (by rfl) B.isi (by decide +kernel) (pa_cons (pv 1) (pa_cons (pe_bltn (v := .ty "str") (u := .type "str") (by rfl) B.str (by decide +kernel) rfl) pa_nil)))))
          (pw_or1 (pt_cmpR op_notIn_seq (pv 1) (pe_glob (v := .ref aw) (by rfl) gw rfl) rfl))))
        (pss_one (ps_ret pe_bl)) pss_nil)
      (pss_one (ps_ret (pe_and (pe_has DN hr pass0 (pa_cons (pv 2) pa_nil)) (pe_and (pe_has DN hr pass0 (pa_cons (pv 3) pa_nil)) (pe_one (pe_cmpR op_ne (pv 2) (pv 3) (nomark _))))))))), ?_⟩
    have no : isCopyD d = false → ∀ H', Same H H' → Q (.bl false) H' := fun e H' h => by rw [← e]; exact q H' h
    refine ⟨v, rfl, v, .ty "tuple", _, _, _, rfl, .ty "tuple", hx.ty, kit_ty (kit_tup d), _, rfl, ?_⟩
    cases hx with
    | @tup a xs ds haj hs ha =>
      have el := ha.len
      refine ⟨_, rfl, a, xs, rfl, .inr hs, rfl, _, rfl, ?_⟩
      show if (!decide (V.int (xs.length : Int) = V.int 3)) = true then _ else _
      refine ite2 (fun c => ?_) (fun c => ?_)
      · refine no (copy_no fun z => ?_) H (Same.refl H)
        rw [← el] at z
        rw [z] at c
        exact absurd c (by decide)
      · have l3 : xs.length = 3 := by
          by_cases z : xs.length = 3
          · exact z
          · rw [decide_eq_false (fun y => z (by injection y with y; omega))] at c
            exact absurd rfl c
        obtain ⟨x1, x2, x3, d1, d2, d3, rfl, rfl, h1, h2, h3⟩ := dx_three ha l3
        refine ⟨_, rfl, a, _, rfl, hs, rfl, _, _, rfl, _, _, rfl, _, _, rfl, rfl, ?_⟩
        refine ⟨x1, rfl, x1, .ty "str", _, _, _, rfl, .ty "str", h1.ty, kit_ty (kit_str d1), _, rfl, ?_⟩
        have sm2 : smD d2 = true := smAll_mem (ds := [d1, d2, d3]) (by simpa [smD] using hsm) (by simp)
        have sm3 : smD d3 = true := smAll_mem (ds := [d1, d2, d3]) (by simpa [smD] using hsm) (by simp)
        cases h1 with
        | str x =>
          refine ⟨_, rfl, aw, _, rfl, .inr (sw H), rfl, rfl, _, rfl, ?_⟩
          show if (!inV (.str x) [V.str (Str.ofString "over"), V.str (Str.ofString "skip")]) = true then _ else _
          rw [inV_word]
          refine ite2 (fun c2 => ?_) (fun c2 => ?_)
          · refine no ?_ H (Same.refl H)
            have : wordB x = false := by simpa using c2
            show (wordB x && _) = false
            rw [this, Bool.false_and]
          · have wx : wordB x = true := by simpa using c2
            have e0 : isCopyD (.tuple [.str x, d2, d3]) = (isNameD d2 && (isNameD d3 && !sameD d2 d3)) := by
              show (wordB x && _) = _
              rw [wx, Bool.true_and]
            rw [e0] at q
            refine ⟨_, rfl, j, x2, d2, rfl, h2, sm2, fun H1 e1 => ⟨_, rfl, ?_⟩⟩
            cases n2 : isNameD d2 with
            | false =>
              rw [n2, Bool.false_and] at q
              exact q H1 e1
            | true =>
              rw [n2, Bool.true_and] at q
              refine ⟨_, rfl, j, x3, d3, rfl, h3.same e1, sm3, fun H2 e2 => ⟨_, rfl, ?_⟩⟩
              cases n3 : isNameD d3 with
              | false =>
                rw [n3, Bool.false_and] at q
                exact q H2 (e1.trans e2)
              | true =>
                rw [n3, Bool.true_and] at q
                obtain ⟨s2, rfl⟩ := nameStr n2
                obtain ⟨s3, rfl⟩ := nameStr n3
                cases h2
                cases h3
                refine ⟨_, rfl, _, rfl, rfl, ?_⟩
                have e3 : decide (V.str s2 = V.str s3) = sameD (.str s2) (.str s3) := by
                  show _ = decide (s2 = s3)
                  by_cases z : s2 = s3
                  · subst z
                    simp
                  · rw [decide_eq_false z, decide_eq_false fun y => z (by injection y)]
                rw [e3]
                exact q H2 (e1.trans e2)
        | non => exact no rfl H (Same.refl H)
        | bl b => exact no rfl H (Same.refl H)
        | int i => exact no rfl H (Same.refl H)
        | lst _ _ _ => exact no rfl H (Same.refl H)
        | tup _ _ _ => exact no rfl H (Same.refl H)
        | dic _ _ _ => exact no rfl H (Same.refl H)
    | non => exact no rfl H (Same.refl H)
    | bl b => exact no rfl H (Same.refl H)
    | int i => exact no rfl H (Same.refl H)
    | str _ => exact no rfl H (Same.refl H)
    | lst _ _ _ => exact no rfl H (Same.refl H)
    | dic _ _ _ => exact no rfl H (Same.refl H)
theorem same_t {H H' : Hp} {a : Addr} {xs : List V} (e : Same H H') (h : SqT K H a xs) : SqT K H' a xs := by
  rcases h with (h | ⟨o, h⟩) | h
  · exact .inl (.inl (e _ _ h))
  · exact .inl (.inr ⟨o, e _ _ h⟩)
  · exact .inr h
theorem scSc : FnScope ["value", "item"] ["value"] (defScope sScript) := ⟨rfl, rfl, rfl, by decide +kernel, rfl, by decide +kernel, by decide +kernel⟩
theorem ok_script {f : Addr} {fd : FuncData} (F : Fun K "is_script" "is_script" sScript f fd) (B : Bl mg) (G : Gb K mg) (DC : Has P w K mg base CX0 2 "is_copy" ["value"] (spD K isCopyD)) :
    FnOk P w K mg base CX0 3 f fd ["value"] (spD K isScriptD) := by
  obtain ⟨t2, g2⟩ := G.mc
  refine F.ok scSc (fun vs H Q E h => ?_) (fun cdv A outer s H vs Q E hr h => ?_)
  · obtain ⟨j, v, d, rfl, _⟩ := h
    rfl
  · obtain ⟨j, v, d, rfl, hx, hsm, q⟩ := h
    refine ⟨_, pss_cons (ps_if (PW.pt (pw_or (pt_not (pt_val (pe_callB call_isi (by rfl) B.isi (by decide +kernel) (pa_cons (pv 0) (pa_cons (pe_bltn (v := .ty "tuple") (u := .type "tuple") (by rfl) B.tuple (by decide +kernel) rfl) pa_nil)))))
          (pw_or1 (pt_cmpR op_gt (pe_callB call_len_seq (by rfl) B.len PySem.boot_len (pa_cons (pv 0) pa_nil)) (pe_glob (v := .int 200) (by rfl) g2 ⟨_, rfl⟩) (nomark _)))))
        (pss_one (ps_ret pe_bl)) pss_nil)
      (pss_one (ps_ret (pe_callB (cr_all rfl) (by rfl) B.all (by decide +kernel) (pa_cons (pe_lc (own := [("item", 1)]) (tt := tYes) rfl scSc.nd (pi_tup (pv 0)) (blkOk_by (N := ["value", "item"]) (sc := defScope sScript) (by decide +kernel))
        (fun _ _ _ _ _ => pg_name (i := 1) scSc.nd rfl (.inl rfl)) (fun _ _ _ _ _ => pts_nil) (fun _ _ _ _ _ => pe_has DC hr pass0 (pa_cons (pv 1) pa_nil))) pa_nil)))), ?_⟩
    have no : isScriptD d = false → ∀ H', Same H H' → Q (.bl false) H' := fun e H' h => by rw [← e]; exact q H' h
    refine ⟨v, rfl, v, .ty "tuple", _, _, _, rfl, .ty "tuple", hx.ty, kit_ty (kit_tup d), _, rfl, ?_⟩
    cases hx with
    | @tup a xs ds haj hs ha =>
      have el := ha.len
      refine ⟨_, rfl, a, xs, rfl, .inr hs, _, 200, rfl, rfl, _, rfl, ?_⟩
      show if decide ((200 : Int) < (xs.length : Int)) = true then _ else _
      refine ite2 (fun c => ?_) (fun c => ?_)
      · refine no ?_ H (Same.refl H)
        have := of_decide_eq_true c
        show (decide (ds.length ≤ 200) && _) = false
        rw [decide_eq_false (by omega), Bool.false_and]
      · have l200 : ds.length ≤ 200 := by
          by_cases z : (200 : Int) < (xs.length : Int)
          · exact absurd (decide_eq_true z) c
          · omega
        refine ⟨_, rfl, a, rfl, ⟨xs, hs⟩, fun D nD => ?_⟩
        refine lc_it walk_tup (fun i H' => H' D = some (.lst (((ds.take i).map isCopyD).map V.bl)) ∧ Same H H') ⟨upd_same, same_new nD⟩ (fun i H' _ h => same_t h.2 hs) ?_ ?_
        · rintro i x H1 H2 hi ⟨hD, e1⟩ ⟨rfl, hc⟩
          obtain ⟨di, hdi, hxi⟩ := ha.get hc
          refine ⟨rfl, ⟨x, rfl, j, x, di, rfl, hxi.same e1, smAll_mem (by simpa [smD] using hsm) (List.mem_of_getElem? hdi), fun H3 e3 => ?_⟩⟩
          refine ⟨_, e3 _ _ hD, ?_, ?_, same_up (e1.trans e3) nD⟩
          · rw [List.length_map, List.length_map, List.length_take]
            exact small1000 (by omega)
          · rw [upd_same, List.take_add_one, hdi, List.map_append, List.map_append]
            rfl
        · rintro H1 ⟨hD, e1⟩
          refine ⟨D, _, rfl, sqOf0 hD, ?_⟩
          have e : isScriptD (.tuple ds) = ((ds.take xs.length).map isCopyD).all id := by
            show (decide (ds.length ≤ 200) && ds.all isCopyD) = _
            rw [decide_eq_true l200, List.take_of_length_le (by omega), List.all_map, Bool.true_and]
            rfl
          rw [← e]
          exact q H1 e1
    | non => exact no rfl H (Same.refl H)
    | bl b => exact no rfl H (Same.refl H)
    | int i => exact no rfl H (Same.refl H)
    | str _ => exact no rfl H (Same.refl H)
    | lst _ _ _ => exact no rfl H (Same.refl H)
    | dic _ _ _ => exact no rfl H (Same.refl H)
end
end Cv


/-! part K08J -/
set_option maxRecDepth 100000
set_option maxHeartbeats 4000000
namespace Cv
open PySem PySem.Spec PyProof.Rows L2
/-! ### data that repr may show: its weight at most n, its depth at most k -/
structure Gd (d : PyData) (n k : Nat) : Prop where
  ls : d.leavesShort 13 = true
  sh : d.showable = true
  dp : d.depth ≤ k
  wt : d.weight ≤ n
  sm : smD d = true
inductive Gds : List PyData → Nat → Nat → Prop
  | nil (k : Nat) : Gds [] 0 k
  | cons {d : PyData} {ds : List PyData} {n m k : Nat} : Gd d n k → Gds ds m k → Gds (d :: ds) (n + 1 + m) k
theorem Gd.mono {d : PyData} {n n' k k' : Nat} (h : Gd d n k) (hn : n ≤ n') (hk : k ≤ k') : Gd d n' k' := ⟨h.ls, h.sh, Nat.le_trans h.dp hk, Nat.le_trans h.wt hn, h.sm⟩
theorem Gds.up {k k' : Nat} (hk : k ≤ k') : ∀ {ds : List PyData} {n : Nat}, Gds ds n k → Gds ds n k'
  | _, _, .nil _ => .nil _
  | _, _, .cons h t => .cons (h.mono (Nat.le_refl _) hk) (Gds.up hk t)
theorem Gds.app {k : Nat} : ∀ {a b : List PyData} {n m : Nat}, Gds a n k → Gds b m k → Gds (a ++ b) (n + m) k
  | _, _, _, m, .nil _, h => by
    rw [Nat.zero_add]
    exact h
  | _, _, _, m, .cons (n := x) (m := y) h t, g => by
    rw [Nat.add_assoc]
    exact .cons h (Gds.app t g)
theorem Gds.mem {k : Nat} : ∀ {ds : List PyData} {n : Nat} {d : PyData}, Gds ds n k → d ∈ ds → Gd d n k
  | _, _, _, .nil _, h => nomatch h
  | _, _, d, .cons (n := x) (m := y) h t, m => by
    rcases List.mem_cons.mp m with e | m
    · rw [e]
      exact h.mono (by omega) (Nat.le_refl _)
    · exact (Gds.mem t m).mono (by omega) (Nat.le_refl _)
structure GdsF (ds : List PyData) (n k : Nat) : Prop where
  ls : PyData.leavesShortAll 13 ds = true
  sh : PyData.showableAll ds = true
  dp : PyData.depthAll ds ≤ k
  wt : PyData.weightAll ds ≤ n
  sm : smAll ds = true
theorem Gds.all {k : Nat} : ∀ {ds : List PyData} {n : Nat}, Gds ds n k → GdsF ds n k
  | _, _, .nil _ => ⟨rfl, rfl, Nat.zero_le _, Nat.le_refl _, rfl⟩
  | _, _, .cons h t => by
    have i := Gds.all t
    refine ⟨?_, ?_, ?_, ?_, ?_⟩
    · simp only [PyData.leavesShortAll, h.ls, i.ls, Bool.and_self]
    · simp only [PyData.showableAll, h.sh, i.sh, Bool.and_self]
    · simp only [PyData.depthAll]
      exact Nat.max_le.mpr ⟨h.dp, i.dp⟩
    · simp only [PyData.weightAll]
      have := h.wt
      have := i.wt
      omega
    · simp only [smAll, h.sm, i.sm, Bool.and_self]
theorem Gd.tup {ds : List PyData} {n k : Nat} (h : Gds ds n k) : Gd (.tuple ds) n (k + 1) := by
  have i := h.all
  exact ⟨by simpa only [PyData.leavesShort] using i.ls, by simpa only [PyData.showable] using i.sh, by simpa only [PyData.depth] using Nat.succ_le_succ i.dp, by simpa only [PyData.weight] using i.wt, by simpa only [smD] using i.sm⟩
theorem Gd.lst {ds : List PyData} {n k : Nat} (h : Gds ds n k) : Gd (.list ds) n (k + 1) := by
  have i := h.all
  exact ⟨by simpa only [PyData.leavesShort] using i.ls, by simpa only [PyData.showable] using i.sh, by simpa only [PyData.depth] using Nat.succ_le_succ i.dp, by simpa only [PyData.weight] using i.wt, by simpa only [smD] using i.sm⟩
theorem Gd.non (k : Nat) : Gd .none 0 k := ⟨rfl, rfl, Nat.zero_le _, Nat.le_refl _, rfl⟩
theorem Gd.bool (b : Bool) (k : Nat) : Gd (.bool b) 0 k := ⟨rfl, rfl, Nat.zero_le _, Nat.le_refl _, rfl⟩
theorem Gd.int {i : Int} (h : i.natAbs < 10 ^ 12) (h2 : i.natAbs.log2 < 63) (k : Nat) : Gd (.int i) 64 k := by
  refine ⟨?_, ?_, Nat.zero_le _, ?_, rfl⟩
  · simp only [PyData.leavesShort, decide_eq_true_eq]
    exact PyData.shown_int_le h
  · simp only [PyData.showable, decide_eq_true_eq]
    omega
  · simp only [PyData.weight]
    split <;> omega
theorem Gd.dic0 (k : Nat) : Gd (.dict []) 0 (k + 1) := by
  refine ⟨rfl, rfl, ?_, ?_, rfl⟩
  · simp only [PyData.depth, PyData.depthKv]
    omega
  · simp only [PyData.weight, PyData.weightKv]
    omega
theorem Gd.str {x : Str} {n : Nat} (hc : ∀ c ∈ x.cps.toList, c < 1000000) (hl : x.length ≤ n) (hn : n ≤ 10000) (k : Nat) : Gd (.str x) n k := by
  refine ⟨?_, rfl, Nat.zero_le _, ?_, ?_⟩
  · simp only [PyData.leavesShort, List.all_eq_true, decide_eq_true_eq]
    intro c h
    have := hc c h
    have e : (16 : Nat) ^ 8 = 4294967296 := by decide
    omega
  · simp only [PyData.weight]
    exact hl
  · simp only [smD, decide_eq_true_eq]
    omega
theorem Gd.fits {d : PyData} {n k : Nat} (h : Gd d n k) (hn : n ≤ 2 ^ 20) : d.shown.length ≤ sizeLine := PyData.shown_fits (B := 13) (by decide) (by decide) h.ls (Nat.le_trans h.wt hn)
/-! ### new objects -/
section
variable {K : PySem.W.Frag} {H H' : Hp} {j p : Addr} {o : HO}
theorem DxAll.same {vs : List V} {ds : List PyData} (h : DxAll K H j vs ds) (e : Same H H') : DxAll K H' j vs ds := DxAll.keep (Eff.same e) ds vs h
theorem DxAll.eff {vs : List V} {ds : List PyData} (h : DxAll K H j vs ds) (e : Eff j H H') : DxAll K H' j vs ds := DxAll.keep e ds vs h
theorem Dx.eff {v : V} {d : PyData} (h : Dx K H j v d) (e : Eff j H H') : Dx K H' j v d := h.keep e d v
theorem DxAll.app : ∀ {vs ws : List V} {ds es : List PyData}, DxAll K H j vs ds → DxAll K H j ws es → DxAll K H j (vs ++ ws) (ds ++ es)
  | _, _, _, _, .nil, h => h
  | _, _, _, _, .cons h t, g => .cons h (DxAll.app t g)
theorem DxAll.take : ∀ {vs : List V} {ds : List PyData} (n : Nat), DxAll K H j vs ds → DxAll K H j (vs.take n) (ds.take n)
  | _, _, 0, _ => .nil
  | _, _, _ + 1, .nil => .nil
  | _, _, n + 1, .cons h t => .cons h (DxAll.take n t)
theorem DxAll.drop : ∀ {vs : List V} {ds : List PyData} (n : Nat), DxAll K H j vs ds → DxAll K H j (vs.drop n) (ds.drop n)
  | _, _, 0, h => h
  | _, _, _ + 1, .nil => .nil
  | _, _, n + 1, .cons _ t => DxAll.drop n t
theorem DxAll.one {v : V} {d : PyData} (h : Dx K H j v d) : DxAll K H j [v] [d] := .cons h .nil
theorem new_tup {xs : List V} {ds : List PyData} (hj : H j = some o) (hp : H p = none) (h : DxAll K H j xs ds) : Dx K (upd H p (.tup xs)) j (.ref p) (.tuple ds) :=
  .tup (ne_of_none hj hp).symm (.inl (.inl upd_same)) (h.same (same_new hp))
theorem new_lst {xs : List V} {ds : List PyData} (hj : H j = some o) (hp : H p = none) (h : DxAll K H j xs ds) : Dx K (upd H p (.lst xs)) j (.ref p) (.list ds) :=
  .lst (ne_of_none hj hp).symm (.inl (.inl upd_same)) (h.same (same_new hp))
theorem new_dic (hj : H j = some o) (hp : H p = none) : Dx K (upd H p (.dK [])) j (.ref p) (.dict []) :=
  .dic (ne_of_none hj hp).symm upd_same .nil
end
end Cv


/-! part K08O -/
set_option maxRecDepth 100000
set_option maxHeartbeats 4000000
namespace Cv
open PySem PySem.Spec PyProof.Rows L2
/-- what isn't reached -/
theorem ps_dead {X : Cx} {st : Stmt} : PS X st (fun _ _ _ => False) := ⟨fun _ _ _ _ _ _ h => h.elim⟩
structure Gm (mg : Str → Option Value) : Prop where
  mf : ∃ t, mg "MOST_FOLDERS" = some (.int 20 t)
def strsOf : List PyData → List Str
  | .str x :: r => x :: strsOf r
  | _ :: r => strsOf r
  | [] => []
def areFoldersD : PyData → Bool
  | .tuple ds => (decide (1 ≤ ds.length) && decide (ds.length ≤ 20)) && (ds.all isNameD && decide (strsOf ds).Nodup)
  | _ => false
theorem names_vals {K : PySem.W.Frag} {H : Hp} {j : Addr} : ∀ {vs : List V} {ds : List PyData}, DxAll K H j vs ds → ds.all isNameD = true → vs = (strsOf ds).map V.str ∧ (strsOf ds).length = ds.length
  | _, _, .nil, _ => ⟨rfl, rfl⟩
  | _, _, .cons (d := d) (ds := ds) h t, e => by
    have e2 : (isNameD d && ds.all isNameD) = true := e
    rw [Bool.and_eq_true] at e2
    obtain ⟨x, rfl⟩ := nameStr e2.1
    obtain ⟨a, b⟩ := names_vals t e2.2
    cases h
    rw [a]
    exact ⟨rfl, congrArg Nat.succ b⟩
def spOk (K : PySem.W.Frag) (g : PyData → Bool) : Sp := fun vs H Q _ => ∃ (j : Addr) (v : V) (d : PyData), vs = [v] ∧ Dx K H j v d ∧ smD d = true ∧ g d = true ∧ ∀ H', Same H H' → Q .non H'
def spChkS (K : PySem.W.Frag) : Sp := fun vs H Q _ => ∃ (j p a : Addr) (cs : List Cp) (ys : List Str), vs = [.ref p, .ref a] ∧ Dx K H j (.ref p) (planD cs) ∧ cs.length ≤ 200 ∧ (∀ c ∈ cs, CpOk ys c) ∧ (∀ y ∈ ys, IsNm y) ∧ SqT K H a (ys.map V.str) ∧ ∀ H', Same H H' → Q .non H'
def spJoin : Sp := fun vs H Q _ => ∃ (a b : Addr) (xs ys : List Str), vs = [.ref a, .ref b] ∧ H a = some (.lst (xs.map V.str)) ∧ H b = some (.lst (ys.map V.str)) ∧ xs.length ≤ 100 ∧ ys.length ≤ 100 ∧
  ∀ (p : Addr) (H' : Hp), Same H H' → H p = none → H' p = some (.lst ((jb xs ys).map V.str)) → Q (.ref p) H'
theorem take_filter {α : Type} (p : α → Bool) {l : List α} {i : Nat} {x : α} (h : l[i]? = some x) : (l.take (i + 1)).filter p = (l.take i).filter p ++ (if p x = true then [x] else []) := by
  rw [List.take_add_one, h, List.filter_append]
  congr 1
  show List.filter p [x] = _
  rw [List.filter_cons]
  rfl
theorem inV_strs (x : Str) (ys : List Str) : inV (.str x) (ys.map V.str) = decide (x ∈ ys) := by
  unfold inV
  rw [List.any_map, Bool.eq_iff_iff, List.any_eq_true, decide_eq_true_eq]
  constructor
  · rintro ⟨y, hy, e⟩
    have e2 : decide (y = x) = true := e
    exact of_decide_eq_true e2 ▸ hy
  · intro h
    exact ⟨x, h, show decide (x = x) = true from decide_eq_true rfl⟩
theorem flat_strs (ys : List Str) : (ys.map V.str).all flatV = true := by
  rw [List.all_map, List.all_eq_true]
  intro y _
  rfl
end Cv

/-! part K08F -/
set_option maxRecDepth 100000
set_option maxHeartbeats 4000000
namespace Cv
open PySem PySem.Spec PyProof.Rows L2
section
variable {P : Program} {w : World} {K : PySem.W.Frag} {mg : Str → Option Value} {base : Heap}
theorem scP : FnScope ["jar", "names_here", "most", "many", "way", "found", "turn", "one", "two", "word"] ["jar", "names_here", "most"] (defScope sPlan) := ⟨rfl, rfl, rfl, by decide +kernel, rfl, by decide +kernel, by decide +kernel⟩
structure PlSt (K : PySem.W.Frag) (H0 H : Hp) (j Fd : Addr) (n i mo : Nat) (ys : List Str) (ps : List Addr) (cs : List Cp) (l : List V) : Prop where
  ej : Eff j H0 H
  hj : H j = some (.lst l)
  jl : JarL l (n + 2 + 8 * i)
  hF : H Fd = some (.lst (ps.map V.ref))
  nF : Fd ≠ j
  fF : H0 Fd = none
  pc : Paired (CpAt H) ps cs
  pl : ps.length = i
  co : ∀ c ∈ cs, CpOk ys c
  two : 0 < i → 2 ≤ ys.length
theorem paired_len {α β : Type} {R : α → β → Prop} {l : List α} {m : List β} (h : Paired R l m) : l.length = m.length := Paired.length h
theorem ok_plan {f : Addr} {fd : FuncData} (F : Fun K "_law_plan" "_law_plan" sPlan f fd) (B : Bl mg) (DD : Has P w K mg base CX0 1 "_law_dip" ["jar", "many"] spDip) :
    FnOk P w K mg base CX0 2 f fd ["jar", "names_here", "most"] (spPlan K) := by
  refine F.ok scP (fun vs H Q E h => ?_) (fun cdv A outer s H vs Q E hr h => ?_)
  · obtain ⟨j, a, l, mo, n, ys, rfl, _⟩ := h
    rfl
  · obtain ⟨j, a, l, mo, n, ys, rfl, hj, jl, hn, hS, haj, y1, y20, ynd, m0, m1, q⟩ := h
    refine ⟨_, pss_cons (ps_par3 (i := 3) (j := 4) (l := 5) rfl scP.nd rfl rfl rfl (by decide) (by decide) (by decide) rfl rfl rfl
        (pa_cons (pe_callB call_len_seq (by rfl) B.len PySem.boot_len (pa_cons (pv 1) pa_nil)) (pa_cons (pe_has DD hr pass0 (pa_cons (pv 0) (pa_cons pe_int pa_nil))) (pa_cons (pe_lst pa_nil) pa_nil))) rfl)
      (pss_cons (ps_for PassesOwn.never rfl (pi_range1 (by rfl) B.range (pa_cons (pe_op op_mul (pe_has DD hr pass0 (pa_cons (pv 0) (pa_cons (pe_op op_add (pv 2) pe_int) pa_nil)))
            (pe_callTy call_int1 (by rfl) B.int (by decide +kernel) (pa_cons (pe_cmpR op_gt (pv 3) pe_int (nomark _)) pa_nil))) pa_nil)) (pg_name (i := 6) scP.nd rfl (.inl rfl))
        (pss_cons (ps_par (i := 7) (j := 8) rfl scP.nd rfl rfl (by decide) rfl rfl (pa_cons (pe_has DD hr pass0 (pa_cons (pv 0) (pa_cons (pv 3) pa_nil))) (pa_cons (pe_has DD hr pass0 (pa_cons (pv 0) (pa_cons (pv 3) pa_nil))) pa_nil)) rfl)
        (C8.pss_cut (ps_if (pt_cmpR op_eq (pv 4) pe_int (nomark _))
          (pss_one (ps_par (i := 7) (j := 8) rfl scP.nd rfl rfl (by decide) rfl rfl (pa_cons (pe_op op_mod (pe_op op_add (pv 6) pe_int) (pv 3)) (pa_cons (pe_op op_mod (pv 6) (pv 3)) pa_nil)) rfl)) pss_nil)
        (C8.pss_cut (ps_if (pt_cmpR op_eq (pv 4) pe_int (nomark _)) (pss_one (ps_set (i := 8) scP.nd rfl (.inl rfl) pe_int)) pss_nil)
        (C8.pss_cut (ps_if (pt_cmpR op_eq (pv 4) pe_int (nomark _)) (pss_one (ps_set (i := 7) scP.nd rfl (.inl rfl) pe_int)) pss_nil)
        (C8.pss_cut (ps_if (pt_cmpR op_eq (pv 4) pe_int (nomark _))
          (pss_one (ps_par (i := 7) (j := 8) rfl scP.nd rfl rfl (by decide) rfl rfl
            (pa_cons (pe_has DD hr pass0 (pa_cons (pv 0) (pa_cons (pe_callB (call_min2 rfl) (by rfl) B.min (by decide +kernel) (pa_cons (pv 3) (pa_cons pe_int pa_nil))) pa_nil)))
            (pa_cons (pe_has DD hr pass0 (pa_cons (pv 0) (pa_cons (pe_callB (call_min2 rfl) (by rfl) B.min (by decide +kernel) (pa_cons (pv 3) (pa_cons pe_int pa_nil))) pa_nil))) pa_nil)) rfl)) pss_nil)
        (C8.pss_cut (ps_set (i := 8) scP.nd rfl (.inl rfl) (pe_ifExp (pt_cmpR op_ne (pv 8) (pv 7) (nomark _)) (pv 8) (pe_op op_mod (pe_op op_add (pv 7) pe_int) (pv 3))))
        (pss_cons (ps_set (i := 9) scP.nd rfl (.inl rfl) (pe_ix ix_list (pe_lst (pa_cons pe_str (pa_cons pe_str pa_nil)))
          (pe_ix ix_list (pe_lst (pa_cons (pe_has DD hr pass0 (pa_cons (pv 0) (pa_cons pe_int pa_nil))) (pa_cons pe_int (pa_cons (pe_callTy call_int1 (by rfl) B.int (by decide +kernel) (pa_cons (pe_cmpR op_eq (pe_op op_mod (pv 6) pe_int) pe_int (nomark _)) pa_nil)) pa_nil))))
            (pe_op op_mod (pv 4) pe_int) (fun _ _ => rfl)) (fun _ _ => rfl)))
        (pss_one (ps_expr (pe_bm PySem.F.plainAttrs_list PySem.F.slot_list_append PySem.F.type_list_append mt_append (pv 5)
          (pa_cons (pe_tup (pa_cons (pv 9) (pa_cons (pe_ix ix_tup (pv 1) (pv 7) (fun _ _ => rfl)) (pa_cons (pe_ix ix_tup (pv 1) (pv 8) (fun _ _ => rfl)) pa_nil)))) pa_nil))))))))))))
      (pss_one (ps_ret (pe_callTy call_tuple_of (by rfl) B.tuple (by decide +kernel) (pa_cons (pv 5) pa_nil))))), ?_⟩
    -- many, way, found
    refine ⟨_, rfl, a, _, rfl, .inr hS, _, rfl, j, l, 6, n, rfl, hj, jl, by omega, by decide, by decide, fun way l1 wa0 wa1 jl1 => ⟨Nat.zero_le _, fun Fd nF => ⟨_, _, _, rfl, ?_⟩⟩⟩
    have nF0 : Fd ≠ j := (ne_of_none upd_same nF).symm
    have fF : H Fd = none := (upd_ne (H := H) nF0).symm.trans nF
    have hj1 : upd (upd H j (.lst l1)) Fd (.lst []) j = some (.lst l1) := (upd_ne nF0.symm).trans upd_same
    -- the range
    refine ⟨_, rfl, _, rfl, mo, 1, rfl, rfl, j, l1, mo + 1, n + 1, rfl, hj1, jl1, by omega, by omega, by omega, fun d l2 d0 d1 jl2 => ?_⟩
    generalize hH2 : upd (upd (upd H j (.lst l1)) Fd (.lst [])) j (.lst l2) = H2
    have e2 : Eff j H H2 := by rw [← hH2]; exact (((Eff.refl j H).atj).new fF).atj
    have hj2 : H2 j = some (.lst l2) := by rw [← hH2]; exact upd_same
    have hF2 : H2 Fd = some (.lst []) := by rw [← hH2, upd_ne nF0]; exact upd_same
    obtain ⟨T, hT, hT2, hT3⟩ : ∃ T : Int, d * (if decide ((1 : Int) < ((ys.map V.str).length : Int)) = true then 1 else 0) = T ∧ (0 ≤ T ∧ T ≤ mo) ∧ (0 < T → 2 ≤ ys.length) := by
      refine ⟨_, rfl, ?_, ?_⟩
      · split <;> omega
      · rw [List.length_map]
        by_cases c : (1 : Int) < (ys.length : Int)
        · intro _; omega
        · rw [decide_eq_false c]
          intro z
          simp at z
    refine ⟨_, rfl, _, 1, rfl, rfl, .inr ⟨_, rfl, d, _, rfl, rfl, .inl ⟨by omega, by omega⟩, T, by rw [← hT], by omega, by omega, ?_⟩⟩
    have lenM : ((ys.map V.str).length : Int) = (ys.length : Int) := by rw [List.length_map]
    refine for_range (lo := 0) (n := T.toNat) (fun i σ H' => ∃ x6 x7 x8 x9 ps cs l', σ = [some (.ref j), some (.ref a), some (.int mo), some (.int ((ys.map V.str).length : Int)), some (.int way), some (.ref Fd), x6, x7, x8, x9] ∧
      PlSt K H H' j Fd n i mo.toNat ys ps cs l' ∧ (i : Int) ≤ T) ?_ ?_ ?_
    · exact ⟨none, none, none, none, [], [], l2, rfl, ⟨e2, hj2, jl2.mono (by omega), hF2, nF0, fF, .nil, rfl, (fun _ z => nomatch z), fun z => absurd z (by decide)⟩, by omega⟩
    · rintro i σ H3 hi ⟨x6, x7, x8, x9, ps, cs, l3, rfl, S, hiT⟩
      have M2 : 2 ≤ ys.length := hT3 (by omega)
      have hi200 : i < 200 := by omega
      rw [lenM]
      -- one, two
      refine ⟨_, rfl, _, rfl, j, l3, _, n + 2 + 8 * i, rfl, S.hj, S.jl, by omega, by omega, by omega, fun o l4 o0 o1 jl4 => ?_⟩
      refine ⟨_, rfl, _, rfl, j, l4, _, n + 2 + 8 * i + 1, rfl, upd_same, jl4, by omega, by omega, by omega, fun t l5 t0 t1 jl5 => ?_⟩
      refine ⟨_, _, rfl, ?_⟩
      have S3 : Eff j H3 (upd (upd H3 j (.lst l4)) j (.lst l5)) := ((Eff.refl j H3).atj).atj
      have S3j : (upd (upd H3 j (.lst l4)) j (.lst l5)) j = some (.lst l5) := upd_same
      generalize upd (upd H3 j (.lst l4)) j (.lst l5) = H5 at S3 S3j
      -- way == 1
      refine ⟨fun σ' H' => (∃ (o t : Int) (x9 : Option V), σ' = [some (.ref j), some (.ref a), some (.int mo), some (.int (ys.length : Int)), some (.int way), some (.ref Fd), some (.int (0 + (i : Int))), some (.int o), some (.int t), x9] ∧
          (0 ≤ o ∧ o < (ys.length : Int)) ∧ (0 ≤ t ∧ t < (ys.length : Int)) ∧ Eff j H3 H' ∧ ∃ l, H' j = some (.lst l) ∧ JarL l (n + 2 + 8 * i + 2 + 0)), ?_, ?_⟩
      · refine ⟨_, rfl, rfl, _, rfl, ite2 (fun _ => ?_) (fun _ => ?_)⟩
        · refine ⟨_, rfl, _, 1, rfl, rfl, _, rfl, _, _, rfl, rfl, (show (0 : Int) < (ys.length : Int) by omega), _, rfl, _, rfl, _, _, rfl, rfl, (show (0 : Int) < (ys.length : Int) by omega), _, _, rfl, ?_⟩
          exact ⟨_, _, x9, rfl, ⟨Int.emod_nonneg _ (by omega), Int.emod_lt_of_pos _ (by omega)⟩, ⟨Int.emod_nonneg _ (by omega), Int.emod_lt_of_pos _ (by omega)⟩, S3, _, S3j, jl5.mono (by omega)⟩
        · exact ⟨o, t, x9, rfl, ⟨o0, o1⟩, ⟨t0, t1⟩, S3, _, S3j, jl5.mono (by omega)⟩
      clear o0 o1 t0 t1 S3 S3j jl5 jl4
      rintro σ4 H4 ⟨o, t, y9, rfl, o01, t01, e4, l6, hj4, jl6⟩
      refine ⟨fun σ' H' => (∃ (o t : Int) (x9 : Option V), σ' = [some (.ref j), some (.ref a), some (.int mo), some (.int (ys.length : Int)), some (.int way), some (.ref Fd), some (.int (0 + (i : Int))), some (.int o), some (.int t), x9] ∧
          (0 ≤ o ∧ o < (ys.length : Int)) ∧ (0 ≤ t ∧ t < (ys.length : Int)) ∧ Eff j H3 H' ∧ ∃ l, H' j = some (.lst l) ∧ JarL l (n + 2 + 8 * i + 2 + 0)), ?_, ?_⟩
      · refine ⟨_, rfl, rfl, _, rfl, ite2 (fun _ => ?_) (fun _ => ?_)⟩
        · exact ⟨o, 0, y9, rfl, o01, ⟨by decide, by omega⟩, e4, _, hj4, jl6⟩
        · exact ⟨o, t, y9, rfl, o01, t01, e4, _, hj4, jl6⟩
      clear o01 t01 e4 hj4 jl6
      rintro σ4 H4 ⟨o, t, y9, rfl, o01, t01, e4, l6, hj4, jl6⟩
      refine ⟨fun σ' H' => (∃ (o t : Int) (x9 : Option V), σ' = [some (.ref j), some (.ref a), some (.int mo), some (.int (ys.length : Int)), some (.int way), some (.ref Fd), some (.int (0 + (i : Int))), some (.int o), some (.int t), x9] ∧
          (0 ≤ o ∧ o < (ys.length : Int)) ∧ (0 ≤ t ∧ t < (ys.length : Int)) ∧ Eff j H3 H' ∧ ∃ l, H' j = some (.lst l) ∧ JarL l (n + 2 + 8 * i + 2 + 0)), ?_, ?_⟩
      · refine ⟨_, rfl, rfl, _, rfl, ite2 (fun _ => ?_) (fun _ => ?_)⟩
        · exact ⟨0, t, y9, rfl, ⟨by decide, by omega⟩, t01, e4, _, hj4, jl6⟩
        · exact ⟨o, t, y9, rfl, o01, t01, e4, _, hj4, jl6⟩
      clear o01 t01 e4 hj4 jl6
      rintro σ4 H4 ⟨o, t, y9, rfl, o01, t01, e4, l6, hj4, jl6⟩
      refine ⟨fun σ' H' => (∃ (o t : Int) (x9 : Option V), σ' = [some (.ref j), some (.ref a), some (.int mo), some (.int (ys.length : Int)), some (.int way), some (.ref Fd), some (.int (0 + (i : Int))), some (.int o), some (.int t), x9] ∧
          (0 ≤ o ∧ o < (ys.length : Int)) ∧ (0 ≤ t ∧ t < (ys.length : Int)) ∧ Eff j H3 H' ∧ ∃ l, H' j = some (.lst l) ∧ JarL l (n + 2 + 8 * i + 2 + 2)), ?_, ?_⟩
      · refine ⟨_, rfl, rfl, _, rfl, ite2 (fun _ => ?_) (fun _ => ?_)⟩
        · refine ⟨_, rfl, _, rfl, _, 3, rfl, j, l6, _, n + 2 + 8 * i + 2, rfl, hj4, jl6, by omega, by split <;> omega, by split <;> omega, fun o' l7 p0 p1 jl7 => ?_⟩
          refine ⟨_, rfl, _, rfl, _, 3, rfl, j, l7, _, n + 2 + 8 * i + 2 + 1, rfl, upd_same, jl7, by omega, by split <;> omega, by split <;> omega, fun t' l8 q0 q1 jl8 => ?_⟩
          refine ⟨_, _, rfl, o', t', y9, rfl, ⟨p0, ?_⟩, ⟨q0, ?_⟩, (e4.atj).atj, _, upd_same, jl8.mono (by omega)⟩
          · revert p1; split <;> (intro p1; omega)
          · revert q1; split <;> (intro q1; omega)
        · exact ⟨o, t, y9, rfl, o01, t01, e4, _, hj4, jl6.mono (by omega)⟩
      clear o01 t01 e4 hj4 jl6
      rintro σ4 H4 ⟨o, t, y9, rfl, o01, t01, e4, l6, hj4, jl6⟩
      -- two is another one
      refine ⟨fun σ' H' => (∃ (o t : Int) (x9 : Option V), σ' = [some (.ref j), some (.ref a), some (.int mo), some (.int (ys.length : Int)), some (.int way), some (.ref Fd), some (.int (0 + (i : Int))), some (.int o), some (.int t), x9] ∧
          (0 ≤ o ∧ o < (ys.length : Int)) ∧ (0 ≤ t ∧ t < (ys.length : Int) ∧ t ≠ o) ∧ Eff j H3 H' ∧ ∃ l, H' j = some (.lst l) ∧ JarL l (n + 2 + 8 * i + 4)), ?_, ?_⟩
      · refine ⟨_, rfl, _, rfl, rfl, _, rfl, ite2 (fun c => ?_) (fun c => ?_)⟩
        · have c' : t ≠ o := fun z => by
            subst z
            simp at c
          exact ⟨_, rfl, o, t, y9, rfl, o01, ⟨t01.1, t01.2, c'⟩, e4, _, hj4, jl6⟩
        · obtain ⟨z1, z2, z3⟩ := next_ne o01.1 o01.2 (show (2 : Int) ≤ (ys.length : Int) by omega)
          exact ⟨_, rfl, _, 1, rfl, rfl, _, rfl, _, _, rfl, rfl, (show (0 : Int) < (ys.length : Int) by omega), o, _, y9, rfl, o01, ⟨z1, z2, z3⟩, e4, _, hj4, jl6⟩
      clear o01 t01 e4 hj4 jl6
      rintro σ4 H4 ⟨o, t, y9, rfl, o01, t01, e4, l6, hj4, jl6⟩
      -- word
      refine ⟨by decide, fun p1 np1 => ?_⟩
      have p1j : p1 ≠ j := (ne_of_none hj4 np1).symm
      refine ⟨_, rfl, j, l6, 2, n + 2 + 8 * i + 4, rfl, (upd_ne p1j.symm).trans hj4, jl6, by omega, by decide, by decide, fun d2 l7 d20 d21 jl7 => ?_⟩
      refine ⟨_, rfl, _, 5, rfl, rfl, (by show (0 : Int) < 5; decide), rfl, .inr ⟨_, rfl, ?_⟩⟩
      refine ⟨by show 3 ≤ sizeLine; decide, fun p2 np2 => ?_⟩
      have np2' : upd H4 p1 (.lst [V.str (Str.ofString "over"), V.str (Str.ofString "skip")]) p2 = none := (upd_ne (fun z => by rw [z, upd_same] at np2; cases np2)).symm.trans np2
      have p2j : p2 ≠ j := fun z => by rw [z, upd_same] at np2; cases np2
      have p12 : p1 ≠ p2 := ne_of_none upd_same np2'
      have np2'' : H4 p2 = none := (upd_ne (H := H4) p12.symm).symm.trans np2'
      obtain ⟨v, hv, v0, v1⟩ := pick012 (w := way % 3) (Int.emod_nonneg _ (by decide)) (Int.emod_lt_of_pos _ (by decide)) d20 d21 (b := if decide (V.int ((0 + (i : Int)) % 5) = V.int 4) = true then 1 else 0) (by split <;> decide) (by split <;> decide)
      obtain ⟨wd, hw, wok⟩ := pickW v0 v1
      refine ⟨_, rfl, way, 3, rfl, rfl, (by show (0 : Int) < 3; decide), p2, _, _, _, rfl, rfl, sqOf upd_same, hv, p1, _, v, _, rfl, rfl, sqOf ?_, hw, ?_⟩
      · rw [upd_ne p12, upd_ne p1j, upd_same]
      generalize hH8 : upd (upd (upd H4 p1 (.lst [V.str (Str.ofString "over"), V.str (Str.ofString "skip")])) j (.lst l7)) p2 _ = H8
      have e8 : Eff j H3 H8 := by rw [← hH8]; exact ((e4.new (e4.free p1j np1)).atj).new (e4.free p2j np2'')
      have hj8 : H8 j = some (.lst l7) := by rw [← hH8, upd_ne p2j.symm]; exact upd_same
      have e08 := S.ej.trans e8
      have hF8 := e8 Fd _ S.nF S.hF
      have hS8 : SqT K H8 a (ys.map V.str) := eff_t e08 haj hS
      obtain ⟨ya, ha1, ha2⟩ := atT o01.1 o01.2
      obtain ⟨yb, hb1, hb2⟩ := atT t01.1 t01.2.1
      -- found.append
      refine ⟨_, rfl, .inl ⟨rfl, _, sqOf hF8⟩, _, rfl, _, rfl, _, rfl, a, _, o, _, rfl, rfl, hS8, ha1, _, rfl, _, rfl, a, _, t, _, rfl, rfl, hS8, hb1, by show 3 ≤ sizeLine; decide, fun p np => ?_⟩
      have pj : p ≠ j := (ne_of_none hj8 np).symm
      have npH3 : H3 p = none := e8.free pj np
      have npH : H p = none := e08.free pj np
      have hFp := (upd_ne (H := H8) (o := .tup [V.str wd, V.str ya, V.str yb]) (ne_of_none hF8 np)).trans hF8
      refine ⟨Fd, _, _, rfl, rfl, hFp, by rw [List.length_map, S.pl]; exact small1000 (by omega), ?_⟩
      have kt : KeepT H3 (upd (upd H8 p (.tup [V.str wd, V.str ya, V.str yb])) Fd (.lst (ps.map V.ref ++ [V.ref p]))) := ((KeepT.eff e8 S.hj).updN np).updL hFp
      refine ⟨_, _, _, _, ps ++ [p], cs ++ [(wd, ya, yb)], l7, rfl, ⟨?_, ?_, jl7.mono (by omega), ?_, S.nF, S.fF, ?_, by rw [List.length_append, S.pl]; rfl, ?_, fun _ => M2⟩, by omega⟩
      · exact (e08.new npH).new S.fF
      · rw [upd_ne S.nF.symm, upd_ne pj.symm]
        exact hj8
      · rw [upd_same, List.map_append]
        rfl
      · refine paired_snoc (Paired.mapP S.pc fun x c hx => kt _ _ hx) ?_
        show upd _ _ _ p = some (.tup (cpV (wd, ya, yb)))
        rw [upd_ne (ne_of_none hF8 np).symm, upd_same]
        rfl
      · intro c hc
        rcases List.mem_append.mp hc with z | z
        · exact S.co c z
        · have : c = (wd, ya, yb) := by simpa using z
          subst this
          refine ⟨wok, List.mem_of_getElem? ha2, List.mem_of_getElem? hb2, fun z => ?_⟩
          have z' : ya = yb := z
          subst z'
          have l1 := (List.getElem?_eq_some_iff.mp ha2)
          have l2 := (List.getElem?_eq_some_iff.mp hb2)
          obtain ⟨q1, q2⟩ := l1
          obtain ⟨q3, q4⟩ := l2
          have := (List.getElem_inj ynd).mp (q2.trans q4.symm)
          omega
    · rintro σ H3 ⟨x6, x7, x8, x9, ps, cs, l3, rfl, S, hiT⟩
      refine ⟨_, rfl, Fd, _, rfl, .inl ⟨sqOf S.hF, fun p np => ?_⟩⟩
      have pj : p ≠ j := (ne_of_none S.hj np).symm
      have hj9 := (upd_ne (H := H3) (o := .tup (ps.map V.ref)) pj.symm).trans S.hj
      refine q p cs l3 _ ⟨?_, S.co, fun z => ?_⟩ ?_ hj9 (S.jl.mono (by omega)) (S.ej.new (S.ej.free pj np))
      · have h1 := paired_len S.pc
        have h2 := S.pl
        omega
      · have h1 := paired_len S.pc
        have h2 := S.pl
        have h3 : ¬ 0 < T.toNat := fun h => by have := S.two h; omega
        cases cs with
        | nil => rfl
        | cons c r => rw [List.length_cons] at h1; omega
      · exact .tup pj (stOf upd_same) (plan_dx hj9 (Paired.mapP S.pc fun x c hx => (upd_ne (ne_of_none hx np)).trans hx))
end
end Cv


/-! part K08S -/
set_option maxRecDepth 100000
set_option maxHeartbeats 4000000
namespace Cv
open PySem PySem.Spec PyProof.Rows L2
structure CpNm (c : Cp) : Prop where
  w : Word c.1
  a : IsNm c.2.1
  b : IsNm c.2.2
theorem cp_inv {K : PySem.W.Frag} {H : Hp} {j : Addr} {x : V} {c : Cp} (h : Dx K H j x (cpD c)) : ∃ a, x = .ref a ∧ a ≠ j ∧ SqT K H a (cpV c) := by
  unfold cpD at h
  cases h with
  | @tup a xs ds n s t =>
    refine ⟨a, rfl, n, ?_⟩
    cases t with
    | cons h1 t =>
      cases t with
      | cons h2 t =>
        cases t with
        | cons h3 t =>
          cases t
          cases h1
          cases h2
          cases h3
          exact s
theorem nm_gd {x : Str} (h : IsNm x) (k : Nat) : Gd (.str x) 8 k := .str (fun c hc => by have := h.2.2 c hc; omega) h.2.1 (by decide) k
theorem word_gd {x : Str} (h : Word x) (k : Nat) : Gd (.str x) 4 k := by
  rcases h with rfl | rfl
  · exact .str (by decide +kernel) (by decide +kernel) (by decide) k
  · exact .str (by decide +kernel) (by decide +kernel) (by decide) k
theorem lit_gd {x : Str} {n : Nat} (h : (x.cps.toList.all fun c => decide (c < 1000000)) = true) (hl : x.length ≤ n) (hn : n ≤ 10000) (k : Nat) : Gd (.str x) n k :=
  .str (fun c hc => of_decide_eq_true (List.all_eq_true.mp h c hc)) hl hn k
theorem plan_gds : ∀ {cs : List Cp} {ys : List Str}, (∀ c ∈ cs, CpOk ys c) → (∀ y ∈ ys, IsNm y) → Gds (cs.map cpD) (24 * cs.length) 1
  | [], _, _, _ => .nil 1
  | c :: cs, ys, h, hn => by
    have hc := h c List.mem_cons_self
    have t := plan_gds (fun d hd => h d (List.mem_cons_of_mem _ hd)) hn
    have g : Gd (cpD c) 23 1 := Gd.mono (Gd.tup (.cons (word_gd hc.w 0) (.cons (nm_gd (hn _ hc.a) 0) (.cons (nm_gd (hn _ hc.b) 0) (.nil 0))))) (by decide) (by decide)
    have e : 24 * (c :: cs).length = 23 + 1 + 24 * cs.length := by rw [List.length_cons]; omega
    rw [e]
    exact .cons g t
theorem plan_lay : ∀ {cs : List Cp} {ys : List Str}, (∀ c ∈ cs, CpOk ys c) → (∀ y ∈ ys, IsNm y) → PyData.canLayAll0 (cs.map cpD) = true
  | [], _, _, _ => rfl
  | c :: cs, ys, h, hn => by
    have hc := h c List.mem_cons_self
    have t := plan_lay (fun d hd => h d (List.mem_cons_of_mem _ hd)) hn
    have so : ∀ {y : Str}, IsNm y → (PyData.str y).canLay0 = true := fun {y} hy => by
      simp only [PyData.canLay0, PyData.strOk, Array.all_eq_true_iff_forall_mem, decide_eq_true_eq]
      intro d hd
      have := hy.2.2 d (Array.mem_toList_iff.mpr hd)
      omega
    have sw : ∀ {y : Str}, Word y → (PyData.str y).canLay0 = true := fun {y} hy => by
      rcases hy with rfl | rfl
      · decide +kernel
      · decide +kernel
    show (PyData.canLay0 (cpD c) && PyData.canLayAll0 (cs.map cpD)) = true
    rw [t, Bool.and_true]
    show ((PyData.str c.1).canLay0 && ((PyData.str c.2.1).canLay0 && ((PyData.str c.2.2).canLay0 && true))) = true
    rw [sw hc.w, so (hn _ hc.a), so (hn _ hc.b)]
    rfl
theorem plan_shaped {cs : List Cp} {ys : List Str} (h : ∀ c ∈ cs, CpOk ys c) (hn : ∀ y ∈ ys, IsNm y) : SeqAt.shaped (planD cs) = true := by
  have g : (planD cs).depth ≤ 64 := Nat.le_trans (Gd.tup (plan_gds h hn)).dp (by decide)
  have g2 : (planD cs).canLay0 = true := plan_lay h hn
  show ((planD cs).canLay0 && decide ((planD cs).depth ≤ 64)) = true
  rw [g2, decide_eq_true g]
  rfl
theorem plan_cp {cs : List Cp} {ys : List Str} (h : ∀ c ∈ cs, CpOk ys c) (hn : ∀ y ∈ ys, IsNm y) : ∀ c ∈ cs, CpNm c := fun c hc => ⟨(h c hc).w, hn _ (h c hc).a, hn _ (h c hc).b⟩
theorem ref_inv {K : PySem.W.Frag} {H : Hp} {j : Addr} {v : V} {ds : List PyData} (h : Dx K H j v (.tuple ds)) : ∃ a, v = .ref a := by
  cases h with
  | tup n s t => exact ⟨_, rfl⟩
theorem cut_map {α : Type} (f : α → PyData) (xs : List α) (lo hi : Option Int) : ∃ ys : List α, cutD (xs.map f) lo hi = ys.map f ∧ ys.length ≤ xs.length ∧ ∀ y ∈ ys, y ∈ xs := by
  refine ⟨(xs.drop (HT.sIx xs.length 0 lo)).take (HT.sIx xs.length xs.length hi - HT.sIx xs.length 0 lo), ?_, ?_, ?_⟩
  · unfold cutD
    rw [List.length_map, List.map_take, List.map_drop]
  · rw [List.length_take, List.length_drop]
    omega
  · intro y hy
    exact List.mem_of_mem_drop (List.mem_of_mem_take hy)
theorem cp_gd {c : Cp} (h : CpNm c) (k : Nat) (hk : 1 ≤ k) : Gd (cpD c) 23 k := Gd.mono (Gd.tup (.cons (word_gd h.w 0) (.cons (nm_gd h.a 0) (.cons (nm_gd h.b 0) (.nil 0))))) (by decide) hk
theorem cps_gd (k : Nat) (hk : 1 ≤ k) : ∀ {cs : List Cp}, (∀ c ∈ cs, CpNm c) → Gds (cs.map cpD) (24 * cs.length) k
  | [], _ => .nil k
  | c :: cs, h => by
    have t := cps_gd k hk (fun d hd => h d (List.mem_cons_of_mem _ hd))
    have e : 24 * (c :: cs).length = 23 + 1 + 24 * cs.length := by rw [List.length_cons]; omega
    rw [e]
    exact .cons (cp_gd (h c List.mem_cons_self) k hk) t
theorem dx_at {K : PySem.W.Frag} {H : Hp} {j : Addr} {xs : List V} {cs : List Cp} {i : Int} (h : DxAll K H j xs (cs.map cpD)) (i0 : 0 ≤ i) (i1 : i < cs.length) : ∃ x c, atI xs i = some x ∧ c ∈ cs ∧ Dx K H j x (cpD c) := by
  have e := h.len
  rw [List.length_map] at e
  obtain ⟨m, x, em, hx, ha⟩ := atI_in (xs := xs) i0 (by omega)
  obtain ⟨d, hd, D⟩ := h.get hx
  rw [List.getElem?_map] at hd
  cases hc : cs[m]? with
  | none => rw [hc] at hd; cases hd
  | some c =>
    rw [hc] at hd
    cases hd
    exact ⟨x, c, ha, List.mem_of_getElem? hc, D⟩
theorem tup_inv {K : PySem.W.Frag} {H : Hp} {j a : Addr} {ds : List PyData} (h : Dx K H j (.ref a) (.tuple ds)) : a ≠ j ∧ ∃ xs, SqT K H a xs ∧ DxAll K H j xs ds := by
  cases h with
  | tup n s t => exact ⟨n, _, s, t⟩
theorem same_l {K : PySem.W.Frag} {H H' : Hp} {a : Addr} {xs : List V} (e : Same H H') (h : SqL K H a xs) : SqL K H' a xs := by
  rcases h with h | h
  · rcases h with h | ⟨o, h⟩
    · exact .inl (.inl (e _ _ h))
    · exact .inl (.inr ⟨o, e _ _ h⟩)
  · exact .inr h
theorem hu_of' {A : Around} {k : Nat} (hr : Room k A) : A.units < cLine := hr.units0
theorem hu64 {A : Around} {k : Nat} (hr : Room k A) : A.units + 64 < cLine := hr.units
theorem stOf0 {K : PySem.W.Frag} {H : Hp} {a : Addr} {xs : List V} (h : H a = some (.tup xs)) : SqT K H a xs := .inl (.inl h)
theorem nm_nmB {y : Str} (h : IsNm y) : nmB y = true := by
  show ((decide (1 ≤ y.length) && decide (y.length ≤ 8)) && y.cps.toList.all letter) = true
  rw [decide_eq_true h.1, decide_eq_true h.2.1, Bool.true_and, Bool.true_and, List.all_eq_true]
  intro c hc
  obtain ⟨a, b⟩ := h.2.2 c hc
  show (decide (97 ≤ c) && decide (c ≤ 122)) = true
  rw [decide_eq_true a, decide_eq_true b]
  rfl
theorem cp_is {ys : List Str} {c : Cp} (h : CpOk ys c) (hn : ∀ y ∈ ys, IsNm y) : isCopyD (cpD c) = true := by
  show (wordB c.1 && (nmB c.2.1 && (nmB c.2.2 && !decide (c.2.1 = c.2.2)))) = true
  rw [nm_nmB (hn _ h.a), nm_nmB (hn _ h.b), decide_eq_false h.n]
  rcases h.w with e | e
  · rw [e]; decide +kernel
  · rw [e]; decide +kernel
theorem plan_is {ys : List Str} {cs : List Cp} (h : ∀ c ∈ cs, CpOk ys c) (hn : ∀ y ∈ ys, IsNm y) (l : cs.length ≤ 200) : isScriptD (planD cs) = true := by
  show (decide ((cs.map cpD).length ≤ 200) && (cs.map cpD).all isCopyD) = true
  rw [List.length_map, decide_eq_true l, Bool.true_and, List.all_map, List.all_eq_true]
  exact fun c hc => cp_is (h c hc) hn
theorem plan_sm {ys : List Str} {cs : List Cp} (h : ∀ c ∈ cs, CpOk ys c) (hn : ∀ y ∈ ys, IsNm y) : smD (planD cs) = true := (Gd.tup (plan_gds h hn)).sm
end Cv


/-! part K08P -/
set_option maxRecDepth 100000
set_option maxHeartbeats 4000000
namespace Cv
open PySem PySem.Spec PyProof.Rows L2
/-- a walk by its invariant, whatever a turn asks -/
theorem any_it {J : It} {n : Nat} {G : Hp → Prop} {Y : Nat → Hp → V → Hp → Prop} (w : Walk J n G Y) {B : V → Hp → (Hp → Prop) → Prop} {H0 : Hp} {Qd : Hp → Prop} (Pv : Nat → Hp → Prop) (h0 : Pv 0 H0) (hG : ∀ i H, i ≤ n → Pv i H → G H)
    (hs : ∀ i x H H', i < n → Pv i H → Y i H x H' → B x H' (Pv (i + 1))) (hd : ∀ H, Pv n H → Qd H) : ∃ W : Nat → Nat → Hp → Prop, (∃ m, W 0 m H0) ∧ ∀ i m H, W i m H →
      (J.stop i H ∧ Qd H) ∨ (J.go i H ∧ ∃ Nx : Hp → Prop, (∀ H', Nx H' → ∃ m', m' < m ∧ W (i + 1) m' H') ∧ ∀ x H', J.yld i H x H' → B x H' Nx) := by
  refine ⟨fun i m H => i + m = n ∧ Pv i H, ⟨n, Nat.zero_add n, h0⟩, fun i m H q => ?_⟩
  obtain ⟨e, p⟩ := q
  cases m with
  | zero =>
    have e' : i = n := e
    subst e'
    exact .inl ⟨w.stops H (hG _ H (Nat.le_refl _) p), hd H p⟩
  | succ m =>
    have lt : i < n := by omega
    have g := hG i H (Nat.le_of_lt lt) p
    exact .inr ⟨w.goes i H lt g, Pv (i + 1), fun H' p' => ⟨m, Nat.lt_succ_self m, by omega, p'⟩, fun x H' y => hs i x H H' lt p (w.yields i H x H' lt g y)⟩
section
variable {P : Program} {w : World} {K : PySem.W.Frag} {mg : Str → Option Value} {base : Heap}
theorem scCs : FnScope ["copies", "folders", "name", "copy"] ["copies", "folders"] (defScope sChkS) := ⟨rfl, rfl, rfl, by decide +kernel, rfl, by decide +kernel, by decide +kernel⟩
theorem ok_chkS {f : Addr} {fd : FuncData} (F : Fun K "check_script" "check_script" sChkS f fd) (B : Bl mg) (DS : Has P w K mg base CX0 3 "is_script" ["value"] (spD K isScriptD)) : FnOk P w K mg base CX0 4 f fd ["copies", "folders"] (spChkS K) := by
  refine F.ok scCs (fun vs H Q E h => ?_) (fun cdv A outer s H vs Q E hr h => ?_)
  · obtain ⟨j, p, a, cs, ys, rfl, _⟩ := h
    rfl
  · obtain ⟨j, p, a, cs, ys, rfl, Dp, lc, hcs, hys, ha, q⟩ := h
    refine ⟨_, pss_cons (ps_if (pt_not (pt_val (pe_has DS hr pass0 (pa_cons (pv 0) pa_nil)))) (pss_one ps_dead) pss_nil)
      (pss_one (ps_if (pt_not (pt_val (pe_callB (cr_all rfl) (by rfl) B.all (by decide +kernel) (pa_cons (pe_lc2 (own := [("copy", 3), ("name", 2)]) (vs1 := [2]) (tt := tYes) (tt1 := tYes) (te := tOp (rIn K false) (tVar 2) (tVar 1)) (wi1 := iTup K (tSl (rSlA K) (tVar 3) (tPart (tC (.int 1))) tNoPart)) rfl scCs.nd (pi_tup (pv 0))
        (blkOk_by (N := ["copies", "folders", "name", "copy"]) (sc := defScope sChkS) (by decide +kernel)) (by decide) (fun _ _ _ _ _ => pg_name (i := 3) scCs.nd rfl (.inl rfl)) (fun _ _ _ _ _ => pts_nil)
        (fun _ _ _ _ _ => pi_tup (pe_slice sl_tupA (pv 3) (po_some pe_int) po_none)) (fun _ _ _ _ _ => pg_name (i := 2) scCs.nd rfl (.inl rfl)) (fun _ _ _ _ _ => pts_nil) (fun _ _ _ _ _ => pe_cmpR op_in_seq (pv 2) (pv 1) rfl)) pa_nil)))) (pss_one ps_dead) pss_nil)), ?_⟩
    obtain ⟨paj, xs, sP, tP⟩ := tup_inv Dp
    have el := tP.len
    rw [List.length_map] at el
    refine ⟨_, rfl, j, _, planD cs, rfl, Dp, plan_sm hcs hys, fun H1 e1 => ⟨_, rfl, ?_⟩⟩
    rw [plan_is hcs hys lc]
    refine ⟨_, rfl, p, rfl, ⟨xs, same_t e1 sP⟩, fun D nD => ?_⟩
    refine any_it (walk_tup (xs := xs)) (fun i H' => (∃ bs : List Bool, H' D = some (.lst (bs.map V.bl)) ∧ bs.all id = true ∧ bs.length = 2 * i) ∧ Same H1 H') ⟨⟨[], upd_same, rfl, rfl⟩, same_new nD⟩ (fun i H' _ h => same_t (e1.trans h.2) sP) ?_ ?_
    · rintro i x H2 H3 hi ⟨⟨bs, hD, hb, lb⟩, e2⟩ ⟨rfl, hc⟩
      obtain ⟨d, hd, Dd⟩ := tP.get hc
      rw [List.getElem?_map] at hd
      obtain ⟨c, hcc, rfl⟩ : ∃ c, cs[i]? = some c ∧ cpD c = d := by
        cases h : cs[i]? with
        | none => rw [h] at hd; cases hd
        | some c => rw [h] at hd; cases hd; exact ⟨c, rfl, rfl⟩
      have ck := hcs c (List.mem_of_getElem? hcc)
      obtain ⟨b, rfl, bj, sb⟩ := cp_inv (Dd.same (e1.trans e2))
      refine ⟨rfl, _, rfl, _, rfl, b, _, rfl, sb, fun z => absurd z.1 (by show ¬ HT.sIx 3 0 (some 1) = 0; decide), fun _ t nt => ?_⟩
      have e3 : Same H3 (upd H3 t (.tup (cutV (cpV c) (some 1) none))) := same_new nt
      have ht : upd H3 t (.tup (cutV (cpV c) (some 1) none)) t = some (.tup [.str c.2.1, .str c.2.2]) := upd_same
      have hD4 := e3 _ _ hD
      refine ⟨t, rfl, ⟨_, stOf0 ht⟩, ?_⟩
      generalize upd H3 t (.tup (cutV (cpV c) (some 1) none)) = H4 at e3 ht hD4 ⊢
      refine any_it (walk_tup (xs := [.str c.2.1, .str c.2.2])) (fun k H' => (∃ bs : List Bool, H' D = some (.lst (bs.map V.bl)) ∧ bs.all id = true ∧ bs.length = 2 * i + k) ∧ Same H1 H' ∧ H' t = some (.tup [.str c.2.1, .str c.2.2])) ⟨⟨bs, hD4, hb, lb⟩, e2.trans e3, ht⟩ (fun k H' _ h => stOf0 h.2.2) ?_ ?_
      · rintro k y H5 H6 hk ⟨⟨bs, hD, hb, lb⟩, e5, ht⟩ ⟨rfl, hy⟩
        obtain ⟨z, rfl, hz⟩ : ∃ z, y = .str z ∧ z ∈ ys := by
          rcases k with _ | _ | k
          · exact ⟨_, (Option.some.inj hy).symm, ck.a⟩
          · exact ⟨_, (Option.some.inj hy).symm, ck.b⟩
          · exact absurd hy (by simp)
        have k2 : k < 2 := hk
        have i200 : i < 200 := by omega
        refine ⟨rfl, _, rfl, _, rfl, a, _, rfl, .inr (same_t (e1.trans e5) ha), rfl, flat_strs ys, ?_⟩
        show ∃ acc, H6 D = some (.lst acc) ∧ acc.length < sizeLine ∧ ((∃ bs : List Bool, upd H6 D (.lst (acc ++ [.bl (inV (.str z) (ys.map V.str))])) D = _ ∧ _) ∧ _)
        rw [inV_strs, decide_eq_true hz]
        refine ⟨_, hD, by rw [List.length_map]; exact small1000 (by omega), ⟨bs ++ [true], by rw [upd_same, List.map_append]; rfl, by rw [List.all_append, hb]; rfl, by rw [List.length_append, lb]; rfl⟩, ?_, ?_⟩
        · exact same_up e5 nD
        · rw [upd_ne (fun e => by rw [e, hD] at ht; cases ht)]
          exact ht
      · rintro H5 ⟨⟨bs, hD, hb, lb⟩, e5, _⟩
        exact ⟨⟨bs, hD, hb, by rw [lb]; show 2 * i + 2 = 2 * (i + 1); omega⟩, e5⟩
    · rintro H2 ⟨⟨bs, hD, hb, lb⟩, e2⟩
      refine ⟨D, bs, rfl, sqOf0 hD, _, rfl, ?_⟩
      rw [hb]
      exact q H2 (e1.trans e2)
end
end Cv


/-! part K08U -/
set_option maxRecDepth 100000
set_option maxHeartbeats 4000000
namespace Cv
open PySem PySem.Spec PyProof.Rows L2
theorem hu1 {A : Around} {k : Nat} (hr : Room k A) : A.units + 1 < cLine := by have := hr.units; omega
abbrev kvS (ks : List Str) (g : Str → V) : List (Key × V) := ks.map fun y => (Sum.inr y, g y)
theorem kvS_none {ks : List Str} {g : Str → V} {t : Str} (h : t ∉ ks) : valV (kvS ks g) (Sum.inr t) = none := by
  induction ks with
  | nil => rfl
  | cons y ks ih =>
    show valV ((Sum.inr y, g y) :: kvS ks g) (Sum.inr t) = _
    rw [valV_neg (fun z2 => h (List.mem_cons.mpr (.inl (Sum.inr.inj z2).symm)))]
    exact ih fun m => h (List.mem_cons_of_mem _ m)
theorem kvS_add {ks : List Str} {g : Str → V} {t : Str} (h : t ∉ ks) : putK (kvS ks g) (Sum.inr t) (g t) = kvS (ks ++ [t]) g := by
  rw [putK_new _ (kvS_none h), kvS, kvS, List.map_append]
  rfl
theorem nin_take {ks : List Str} {i : Nat} {y : Str} (nd : ks.Nodup) (hy : ks[i]? = some y) : y ∉ ks.take i := fun m => by
  obtain ⟨k, hk, ek⟩ := List.getElem_of_mem m
  rw [List.length_take] at hk
  rw [List.getElem_take] at ek
  obtain ⟨q1, q2⟩ := (List.getElem?_eq_some_iff.mp hy)
  have := (List.getElem_inj nd).mp (ek.trans q2.symm)
  omega
theorem merge_kv (g : Str → V) : ∀ (m l : List Str), (l ++ m).Nodup → mergeK (kvS l g) (kvS m g) = kvS (l ++ m) g
  | [], l, _ => by rw [List.append_nil]; rfl
  | y :: m, l, h => by
    have ny : y ∉ l := fun z => (List.nodup_append.mp h).2.2 y z y List.mem_cons_self rfl
    show mergeK (putK (kvS l g) (.inr y) (g y)) (kvS m g) = _
    rw [kvS_add ny, merge_kv g m (l ++ [y]) (by rw [List.append_assoc]; exact h), List.append_assoc]
    rfl
structure Fold (ys : List Str) : Prop where
  lo : 1 ≤ ys.length
  hi : ys.length ≤ 20
  nd : ys.Nodup
  nm : ∀ y ∈ ys, IsNm y
structure Scr (ys : List Str) (cs : List Cp) : Prop where
  le : cs.length ≤ 200
  ok : ∀ c ∈ cs, CpOk ys c
theorem kvS_val {ks : List Str} {g : Str → V} {t : Str} (h : t ∈ ks) : valV (kvS ks g) (Sum.inr t) = some (g t) := by
  induction ks with
  | nil => cases h
  | cons y ks ih =>
    by_cases e : y = t
    · rw [← e]
      exact valV_pos rfl
    · rcases List.mem_cons.mp h with z | z
      · exact absurd z.symm e
      · show valV ((Sum.inr y, g y) :: kvS ks g) (Sum.inr t) = _
        rw [valV_neg (fun z2 => e (Sum.inr.inj z2))]
        exact ih z
theorem kvS_put {ks : List Str} {g : Str → V} {t : Str} {v : V} (h : t ∈ ks) : putK (kvS ks g) (Sum.inr t) v = kvS ks fun y => if y = t then v else g y := by
  unfold putK
  rw [if_pos (by rw [valV_any, kvS_val h]; rfl), kvS, kvS, List.map_map]
  refine List.map_congr_left fun y _ => ?_
  show (if (Sum.inr y : Key) = Sum.inr t then _ else _) = ((Sum.inr y : Key), if y = t then v else g y)
  by_cases e : y = t
  · rw [if_pos (congrArg Sum.inr e), if_pos e]
  · rw [if_neg (fun z => e (Sum.inr.inj z)), if_neg e]
theorem same_put {H0 H : Hp} {d : Addr} {o : HO} (e : Same H0 H) (f : H0 d = none) : Same H0 (upd H d o) := same_up e f
end Cv

/-! part K08X -/
set_option maxRecDepth 100000
set_option maxHeartbeats 4000000
namespace Cv
open PySem PySem.Spec PyProof.Rows L2
/-! ### files -/
abbrev Fs := List (Str × Str)
abbrev kvF (fs : Fs) : List (Key × V) := fs.map fun p => (Sum.inr p.1, V.str p.2)
def getF : Fs → Str → Option Str
  | [], _ => none
  | p :: r, k => if p.1 = k then some p.2 else getF r k
def setF : Fs → Str → Str → Fs
  | [], k, v => [(k, v)]
  | p :: r, k, v => if p.1 = k then (p.1, v) :: r else p :: setF r k v
theorem getF_none {k : Str} : ∀ {fs : Fs}, getF fs k = none ↔ k ∉ fs.map (·.1)
  | [] => by simp [getF]
  | p :: r => by
    show (if p.1 = k then some p.2 else getF r k) = none ↔ k ∉ p.1 :: r.map (·.1)
    by_cases e : p.1 = k
    · rw [if_pos e]
      simp [e]
    · rw [if_neg e, getF_none (fs := r), List.mem_cons, not_or]
      exact ⟨fun h => ⟨fun z => e z.symm, h⟩, fun h => h.2⟩
theorem getF_set {k v j : Str} : ∀ {fs : Fs}, getF (setF fs k v) j = if k = j then some v else getF fs j
  | [] => rfl
  | p :: r => by
    show getF (if p.1 = k then (p.1, v) :: r else p :: setF r k v) j = if k = j then some v else (if p.1 = j then some p.2 else getF r j)
    by_cases e : p.1 = k
    · rw [if_pos e]
      show (if p.1 = j then some v else getF r j) = _
      rw [e]
      by_cases z : k = j
      · rw [if_pos z, if_pos z]
      · rw [if_neg z, if_neg z, if_neg z]
    · rw [if_neg e]
      show (if p.1 = j then some p.2 else getF (setF r k v) j) = _
      by_cases z : p.1 = j
      · rw [if_pos z, if_neg (fun q => e (z.trans q.symm)), if_pos z]
      · rw [if_neg z, getF_set (fs := r), if_neg z]
theorem setF_keys {k v : Str} : ∀ {fs : Fs}, (setF fs k v).map (·.1) = if k ∈ fs.map (·.1) then fs.map (·.1) else fs.map (·.1) ++ [k]
  | [] => by simp [setF]
  | p :: r => by
    show (if p.1 = k then (p.1, v) :: r else p :: setF r k v).map (·.1) = if k ∈ p.1 :: r.map (·.1) then p.1 :: r.map (·.1) else (p.1 :: r.map (·.1)) ++ [k]
    by_cases e : p.1 = k
    · rw [if_pos e, if_pos (by rw [e]; exact List.mem_cons_self)]
      rfl
    · rw [if_neg e]
      show p.1 :: (setF r k v).map (·.1) = _
      rw [setF_keys (fs := r)]
      by_cases z : k ∈ r.map (·.1)
      · rw [if_pos z, if_pos (List.mem_cons_of_mem _ z)]
      · rw [if_neg z, if_neg (fun m => by rcases List.mem_cons.mp m with q | q; exact e q.symm; exact z q)]
        rfl
theorem kvF_val {k : Str} : ∀ {fs : Fs}, valV (kvF fs) (Sum.inr k) = (getF fs k).map V.str
  | [] => rfl
  | p :: r => by
    show valV ((Sum.inr p.1, V.str p.2) :: kvF r) (Sum.inr k) = (if p.1 = k then some p.2 else getF r k).map V.str
    by_cases e : p.1 = k
    · rw [if_pos e, e]
      exact valV_pos rfl
    · rw [if_neg e, valV_neg (fun z => e (Sum.inr.inj z))]
      exact kvF_val
theorem kvF_put {k v : Str} {fs : Fs} (nd : (fs.map (·.1)).Nodup) : putK (kvF fs) (Sum.inr k) (V.str v) = kvF (setF fs k v) := by
  unfold putK
  by_cases h : k ∈ fs.map (·.1)
  · rw [if_pos (by
      rw [valV_any, kvF_val]
      cases e : getF fs k with
      | none => exact absurd h (getF_none.mp e)
      | some x => rfl)]
    have key : ∀ fs : Fs, (fs.map (·.1)).Nodup → k ∈ fs.map (·.1) → ((kvF fs).map fun kv => if kv.1 = Sum.inr k then (kv.1, V.str v) else kv) = kvF (setF fs k v) := by
      intro fs
      induction fs with
      | nil => intro _ m; cases m
      | cons p r ih =>
        intro nd m
        obtain ⟨n1, n2⟩ := List.nodup_cons.mp nd
        show (if (Sum.inr p.1 : Key) = Sum.inr k then ((Sum.inr p.1 : Key), V.str v) else (Sum.inr p.1, V.str p.2)) :: ((kvF r).map fun kv => if kv.1 = Sum.inr k then (kv.1, V.str v) else kv) = kvF (if p.1 = k then (p.1, v) :: r else p :: setF r k v)
        by_cases e : p.1 = k
        · rw [if_pos (congrArg Sum.inr e), if_pos e]
          have same : ((kvF r).map fun kv => if kv.1 = Sum.inr k then (kv.1, V.str v) else kv) = kvF r := by
            rw [List.map_map]
            refine List.map_congr_left fun q hq => ?_
            show (if (Sum.inr q.1 : Key) = Sum.inr k then _ else _) = _
            rw [if_neg (fun z => n1 (by show p.1 ∈ _; rw [e, ← Sum.inr.inj z]; exact List.mem_map.mpr ⟨q, hq, rfl⟩))]
          rw [same]
          rfl
        · rw [if_neg (fun z => e (Sum.inr.inj z)), if_neg e, ih n2 (by rcases List.mem_cons.mp m with q | q; exact absurd q.symm e; exact q)]
          rfl
    exact key fs nd h
  · rw [if_neg (by rw [valV_any, kvF_val, getF_none.mpr h]; exact Bool.false_ne_true)]
    have key : ∀ fs : Fs, k ∉ fs.map (·.1) → setF fs k v = fs ++ [(k, v)] := by
      intro fs
      induction fs with
      | nil => intro _; rfl
      | cons p r ih =>
        intro m
        show (if p.1 = k then (p.1, v) :: r else p :: setF r k v) = p :: (r ++ [(k, v)])
        rw [if_neg (fun e => m (by rw [← e]; exact List.mem_cons_self)), ih fun q => m (List.mem_cons_of_mem _ q)]
    rw [key fs h]
    have e : kvF (fs ++ [(k, v)]) = kvF fs ++ [((Sum.inr k : Key), V.str v)] := List.map_append
    exact e.symm
structure FOk (PT : List Str) (fs : Fs) : Prop where
  nd : (fs.map (·.1)).Nodup
  sub : ∀ k ∈ fs.map (·.1), k ∈ PT
theorem FOk.len {PT : List Str} {fs : Fs} (h : FOk PT fs) : fs.length ≤ PT.length := by
  have := nodup_sub_len h.nd h.sub
  rw [List.length_map] at this
  exact this
theorem FOk.set {PT : List Str} {fs : Fs} {k v : Str} (h : FOk PT fs) (hk : k ∈ PT) : FOk PT (setF fs k v) := by
  constructor
  · rw [setF_keys]
    split
    · exact h.nd
    · rename_i n
      rw [List.nodup_append]
      exact ⟨h.nd, by simp, fun a ha b hb e => n (by rw [← List.mem_singleton.mp hb, ← e]; exact ha)⟩
  · intro j hj
    rw [setF_keys] at hj
    split at hj
    · exact h.sub j hj
    · rcases List.mem_append.mp hj with m | m
      · exact h.sub j m
      · rw [List.mem_singleton.mp m]; exact hk
def jn (a b : Fs) : Fs := b.foldl (fun acc p => setF acc p.1 p.2) a
def jm (a b : Fs) : Fs := b.foldl (fun acc p => if p.1 ∈ acc.map (·.1) then acc else setF acc p.1 p.2) a
theorem jn_ok {PT : List Str} : ∀ {b a : Fs}, FOk PT a → (∀ k ∈ b.map (·.1), k ∈ PT) → FOk PT (jn a b)
  | [], _, h, _ => h
  | p :: r, _, h, hb => jn_ok (b := r) (h.set (hb p.1 List.mem_cons_self)) fun k hk => hb k (List.mem_cons_of_mem _ hk)
theorem jm_ok {PT : List Str} : ∀ {b a : Fs}, FOk PT a → (∀ k ∈ b.map (·.1), k ∈ PT) → FOk PT (jm a b)
  | [], _, h, _ => h
  | p :: r, a, h, hb => by
    refine jm_ok (b := r) (a := if p.1 ∈ a.map (·.1) then a else setF a p.1 p.2) ?_ fun k hk => hb k (List.mem_cons_of_mem _ hk)
    split
    · exact h
    · exact h.set (hb p.1 List.mem_cons_self)
theorem jn_get {j : Str} : ∀ {b a : Fs}, (b.map (·.1)).Nodup → getF (jn a b) j = (getF b j).or (getF a j)
  | [], _, _ => rfl
  | p :: r, a, nd => by
    obtain ⟨n1, n2⟩ := List.nodup_cons.mp nd
    show getF (jn (setF a p.1 p.2) r) j = ((if p.1 = j then some p.2 else getF r j)).or (getF a j)
    rw [jn_get n2, getF_set]
    by_cases e : p.1 = j
    · rw [if_pos e, if_pos e, getF_none.mpr (by rw [← e]; exact n1)]
      rfl
    · rw [if_neg e, if_neg e]
theorem jm_get {j : Str} : ∀ {b a : Fs}, (b.map (·.1)).Nodup → getF (jm a b) j = (getF a j).or (getF b j)
  | [], a, _ => by
    show getF a j = (getF a j).or none
    cases getF a j <;> rfl
  | p :: r, a, nd => by
    obtain ⟨n1, n2⟩ := List.nodup_cons.mp nd
    show getF (jm (if p.1 ∈ a.map (·.1) then a else setF a p.1 p.2) r) j = (getF a j).or (if p.1 = j then some p.2 else getF r j)
    rw [jm_get n2]
    by_cases h : p.1 ∈ a.map (·.1)
    · rw [if_pos h]
      by_cases e : p.1 = j
      · rw [if_pos e]
        cases z : getF a j with
        | none => exact absurd (by rw [← e]; exact h) (getF_none.mp z)
        | some x => rfl
      · rw [if_neg e]
    · rw [if_neg h, getF_set]
      by_cases e : p.1 = j
      · rw [if_pos e, if_pos e, ← e, getF_none.mpr h]
        rfl
      · rw [if_neg e, if_neg e]
theorem kvF_merge {PT : List Str} : ∀ {b a : Fs}, FOk PT a → (∀ k ∈ b.map (·.1), k ∈ PT) → mergeK (kvF a) (kvF b) = kvF (jn a b)
  | [], _, _, _ => rfl
  | p :: r, a, h, hb => by
    show mergeK (putK (kvF a) (Sum.inr p.1) (V.str p.2)) (kvF r) = kvF (jn (setF a p.1 p.2) r)
    rw [kvF_put h.nd]
    exact kvF_merge (h.set (hb p.1 List.mem_cons_self)) fun k hk => hb k (List.mem_cons_of_mem _ hk)
theorem fok_nil (PT : List Str) : FOk PT [] := ⟨List.nodup_nil, fun _ h => nomatch h⟩
theorem jn_nil {a : Fs} (nd : (a.map (·.1)).Nodup) : jn [] a = a := by
  have key : ∀ (r l : Fs), ((l ++ r).map (·.1)).Nodup → jn l r = l ++ r := by
    intro r
    induction r with
    | nil => intro l _; exact (List.append_nil l).symm
    | cons p r ih =>
      intro l h
      have np : p.1 ∉ l.map (·.1) := fun m => by
        rw [List.map_append] at h
        exact (List.nodup_append.mp h).2.2 p.1 m p.1 List.mem_cons_self rfl
      have e : setF l p.1 p.2 = l ++ [(p.1, p.2)] := by
        have key : ∀ fs : Fs, p.1 ∉ fs.map (·.1) → setF fs p.1 p.2 = fs ++ [(p.1, p.2)] := by
          intro fs
          induction fs with
          | nil => intro _; rfl
          | cons q r ih =>
            intro m
            show (if q.1 = p.1 then (q.1, p.2) :: r else q :: setF r p.1 p.2) = q :: (r ++ [(p.1, p.2)])
            rw [if_neg (fun e => m (by rw [← e]; exact List.mem_cons_self)), ih fun z => m (List.mem_cons_of_mem _ z)]
        exact key l np
      show jn (setF l p.1 p.2) r = _
      rw [e, ih (l ++ [(p.1, p.2)]) (by rw [List.append_assoc]; exact h), List.append_assoc]
      rfl
  have := key a [] (by simpa using nd)
  simpa using this
/-! ### copy by copy -/
def upF (F : Str → Fs) (t : Str) (v : Fs) : Str → Fs := fun y => if y = t then v else F y
def stepF (F : Str → Fs) (c : Cp) : Str → Fs := upF F c.2.2 (if c.1 = Str.ofString "over" then jn (F c.2.2) (F c.2.1) else jn (F c.2.1) (F c.2.2))
def stepL (F : Str → Fs) (c : Cp) : Str → Fs := upF F c.2.2 (if c.1 = Str.ofString "over" then jn (F c.2.2) (F c.2.1) else jm (F c.2.2) (F c.2.1))
def runF (cs : List Cp) (F : Str → Fs) : Str → Fs := cs.foldl stepF F
def runL (cs : List Cp) (F : Str → Fs) : Str → Fs := cs.foldl stepL F
theorem runF_take {cs : List Cp} {F : Str → Fs} {i : Nat} {c : Cp} (h : cs[i]? = some c) : runF (cs.take (i + 1)) F = stepF (runF (cs.take i) F) c := by
  unfold runF
  rw [List.take_add_one, h, List.foldl_append]
  rfl
theorem runL_take {cs : List Cp} {F : Str → Fs} {i : Nat} {c : Cp} (h : cs[i]? = some c) : runL (cs.take (i + 1)) F = stepL (runL (cs.take i) F) c := by
  unfold runL
  rw [List.take_add_one, h, List.foldl_append]
  rfl
def AllOk (PT ys : List Str) (F : Str → Fs) : Prop := ∀ y ∈ ys, FOk PT (F y)
theorem allok_up {PT ys : List Str} {F : Str → Fs} {t : Str} {v : Fs} (h : AllOk PT ys F) (hv : FOk PT v) : AllOk PT ys (upF F t v) := fun y hy => by
  unfold upF
  split
  · exact hv
  · exact h y hy
theorem allok_F {PT ys : List Str} {F : Str → Fs} {c : Cp} (h : AllOk PT ys F) (hc : CpOk ys c) : AllOk PT ys (stepF F c) := by
  refine allok_up h ?_
  split
  · exact jn_ok (h _ hc.b) (h _ hc.a).sub
  · exact jn_ok (h _ hc.a) (h _ hc.b).sub
theorem allok_L {PT ys : List Str} {F : Str → Fs} {c : Cp} (h : AllOk PT ys F) (hc : CpOk ys c) : AllOk PT ys (stepL F c) := by
  refine allok_up h ?_
  split
  · exact jn_ok (h _ hc.b) (h _ hc.a).sub
  · exact jm_ok (h _ hc.b) (h _ hc.a).sub
theorem allok_runF {PT ys : List Str} : ∀ {cs : List Cp} {F : Str → Fs}, AllOk PT ys F → (∀ c ∈ cs, CpOk ys c) → AllOk PT ys (runF cs F)
  | [], _, h, _ => h
  | c :: cs, _, h, hc => allok_runF (cs := cs) (allok_F h (hc c List.mem_cons_self)) fun d hd => hc d (List.mem_cons_of_mem _ hd)
theorem allok_runL {PT ys : List Str} : ∀ {cs : List Cp} {F : Str → Fs}, AllOk PT ys F → (∀ c ∈ cs, CpOk ys c) → AllOk PT ys (runL cs F)
  | [], _, h, _ => h
  | c :: cs, _, h, hc => allok_runL (cs := cs) (allok_L h (hc c List.mem_cons_self)) fun d hd => hc d (List.mem_cons_of_mem _ hd)
def EqF (a b : Fs) : Prop := ∀ k, getF a k = getF b k
theorem eq_run {PT ys : List Str} : ∀ {cs : List Cp} {F G : Str → Fs}, AllOk PT ys F → AllOk PT ys G → (∀ c ∈ cs, CpOk ys c) → (∀ y ∈ ys, EqF (F y) (G y)) → ∀ y ∈ ys, EqF (runF cs F y) (runL cs G y)
  | [], _, _, _, _, _, e => e
  | c :: cs, F, G, hF, hG, hc, e => by
    have ck := hc c List.mem_cons_self
    refine eq_run (cs := cs) (F := stepF F c) (G := stepL G c) (allok_F hF ck) (allok_L hG ck) (fun d hd => hc d (List.mem_cons_of_mem _ hd)) fun y hy k => ?_
    show getF (if y = c.2.2 then _ else F y) k = getF (if y = c.2.2 then _ else G y) k
    by_cases z : y = c.2.2
    · rw [if_pos z, if_pos z]
      by_cases w : c.1 = Str.ofString "over"
      · rw [if_pos w, if_pos w, jn_get (hF _ ck.a).nd, jn_get (hG _ ck.a).nd, e _ ck.a k, e _ ck.b k]
      · rw [if_neg w, if_neg w, jn_get (hF _ ck.b).nd, jm_get (hG _ ck.a).nd, e _ ck.a k, e _ ck.b k]
    · rw [if_neg z, if_neg z]
      exact e y hy k
/-! ### with ascending paths -/
def IsSrt (fs gs : Fs) : Prop := ∃ ks : List Str, ks.Perm (fs.map (·.1)) ∧ sortedS ks = true ∧ gs = ks.map fun k => (k, (getF fs k).getD Str.empty)
theorem srt_one {PT : List Str} {fs fs' gs gs' : Fs} (h : FOk PT fs) (h' : FOk PT fs') (e : EqF fs fs') (s : IsSrt fs gs) (s' : IsSrt fs' gs') : gs = gs' := by
  obtain ⟨ks, pk, sk, rfl⟩ := s
  obtain ⟨ks', pk', sk', rfl⟩ := s'
  have pp : (fs'.map (·.1)).Perm (fs.map (·.1)) := (List.perm_ext_iff_of_nodup h'.nd h.nd).mpr fun k => by
    have q := e k
    constructor
    · intro m
      by_cases z : k ∈ fs.map (·.1)
      · exact z
      · rw [getF_none.mpr z] at q
        exact absurd m (getF_none.mp q.symm)
    · intro m
      by_cases z : k ∈ fs'.map (·.1)
      · exact z
      · rw [getF_none.mpr z] at q
        exact absurd m (getF_none.mp q)
  obtain rfl := sorted_one sk sk' pk (pk'.trans pp)
  exact List.map_congr_left fun k _ => by rw [e k]
end Cv

/-! part K08Y -/
set_option maxRecDepth 100000
set_option maxHeartbeats 4000000
namespace Cv
open PySem PySem.Spec PyProof.Rows L2
def signsP : Str := Str.ofString "abcdefghijklmnopqrstuvwxyz0123456789./"
def IsPt (x : Str) : Prop := 1 ≤ x.length ∧ x.length ≤ 20 ∧ ∀ c ∈ x.cps.toList, c ∈ signsP.cps.toList
structure Gc (mg : Str → Option Value) : Prop where
  lp : ∃ t, mg "LONGEST_PATH" = some (.int 20 t)
  ps : ∃ t, mg "PATH_SIGNS" = some (.str signsP t)
  mf : ∃ t, mg "MOST_FILES" = some (.int 40 t)
  mo : ∃ t, mg "MOST_FOLDERS" = some (.int 20 t)
def spPath : Sp := fun vs H Q _ => ∃ x, vs = [.str x] ∧ IsPt x ∧ ∀ H', Same H H' → Q (.bl true) H'
structure FilesOk (fs : Fs) : Prop where
  nd : (fs.map (·.1)).Nodup
  le : fs.length ≤ 40
  pt : ∀ p ∈ fs, IsPt p.1
def spFiles : Sp := fun vs H Q _ => ∃ (d : Addr) (fs : Fs), vs = [.ref d] ∧ H d = some (.dK (kvF fs)) ∧ FilesOk fs ∧ ∀ H', Same H H' → Q (.bl true) H'
theorem strs_at {ys : List Str} {i : Nat} {x : V} (hc : (ys.map V.str)[i]? = some x) : ∃ y, ys[i]? = some y ∧ x = .str y := by
  rw [List.getElem?_map] at hc
  cases h : ys[i]? with
  | none => rw [h] at hc; cases hc
  | some y => rw [h] at hc; cases hc; exact ⟨y, rfl, rfl⟩
theorem item_at {fs : Fs} {i : Nat} {p : Str × Str} {x y : V} (hp : fs[i]? = some p) (hx : ((kvF fs)[i]?.map fun kv => kV kv.1) = some x) (hy : ((kvF fs)[i]?.map Prod.snd) = some y) : x = V.str p.1 ∧ y = V.str p.2 := by
  have ek : (kvF fs)[i]? = some (Sum.inr p.1, V.str p.2) := by rw [List.getElem?_map, hp]; rfl
  rw [ek] at hx hy
  exact ⟨(Option.some.inj hx).symm, (Option.some.inj hy).symm⟩
theorem all_true : ∀ n : Nat, ((List.replicate n true)).all id = true
  | 0 => rfl
  | n + 1 => by
    show (id true && (List.replicate n true).all id) = true
    rw [all_true n]
    rfl
theorem rep_snoc (n : Nat) : (List.replicate n true).map V.bl ++ [V.bl true] = (List.replicate (n + 1) true).map V.bl := by
  rw [List.replicate_succ', List.map_append]
  rfl
section
variable {P : Program} {w : World} {K : PySem.W.Frag} {mg : Str → Option Value} {base : Heap}
theorem scPt : FnScope ["value", "sign"] ["value"] (defScope sPath) := ⟨rfl, rfl, rfl, by decide +kernel, rfl, by decide +kernel, by decide +kernel⟩
theorem ok_path {f : Addr} {fd : FuncData} (F : Fun K "is_path" "is_path" sPath f fd) (B : Bl mg) (G : Gc mg) : FnOk P w K mg base CX0 1 f fd ["value"] spPath := by
  obtain ⟨t1, g1⟩ := G.lp
  obtain ⟨t2, g2⟩ := G.ps
  refine F.ok scPt (fun vs H Q E h => ?_) (fun cdv A outer s H vs Q E hr h => ?_)
  · obtain ⟨x, rfl, _⟩ := h
    rfl
  · obtain ⟨x, rfl, hx, q⟩ := h
    refine ⟨_, pss_cons (ps_if (PW.pt (pw_or (pt_not (pt_val (pe_callB call_isi (by rfl) B.isi (by decide +kernel) (pa_cons (pv 0) (pa_cons (pe_bltn (v := .ty "str") (u := .type "str") (by rfl) B.str (by decide +kernel) rfl) pa_nil)))))
          (pw_or1 (pt_not (pt_chain op_le op_le pe_int (pe_callB call_len_str (by rfl) B.len PySem.boot_len (pa_cons (pv 0) pa_nil)) (pe_glob (v := .int 20) (by rfl) g1 ⟨_, rfl⟩))))))
        (pss_one (ps_ret pe_bl)) pss_nil)
      (pss_one (ps_ret (pe_callB (cr_all rfl) (by rfl) B.all (by decide +kernel) (pa_cons (pe_lc (own := [("sign", 1)]) (tt := tYes) rfl scPt.nd (pi_str (pv 0)) (blkOk_by (N := ["value", "sign"]) (sc := defScope sPath) (by decide +kernel))
        (fun _ _ _ _ _ => pg_name (i := 1) scPt.nd rfl (.inl rfl)) (fun _ _ _ _ _ => pts_nil) (fun _ _ _ _ _ => pe_cmpR op_in_sign (pv 1) (pe_glob (v := .str signsP) (by rfl) g2 ⟨_, rfl⟩) rfl)) pa_nil)))), ?_⟩
    have hd : Dx K H 0 (.str x) (.str x) := .str x
    refine ⟨.str x, rfl, .str x, .ty "str", _, _, _, rfl, .ty "str", hd.ty, kit_ty (kit_str _), _, rfl, ?_⟩
    refine ⟨_, rfl, x, rfl, Nat.le_trans hx.2.1 (by decide), 1, _, rfl, rfl, _, rfl, ?_⟩
    show if decide ((1 : Int) ≤ (x.length : Int)) = true then _ else _
    rw [decide_eq_true (show (1 : Int) ≤ (x.length : Int) by have := hx.1; omega)]
    refine ⟨_, 20, rfl, rfl, _, rfl, ?_⟩
    show if (!decide ((x.length : Int) ≤ 20)) = true then _ else _
    rw [decide_eq_true (show (x.length : Int) ≤ 20 by have := hx.2.1; omega)]
    refine ⟨_, rfl, x, rfl, fun D nD => ?_⟩
    refine lc_it walk_str (fun i H' => H' D = some (.lst ((List.replicate i true).map V.bl)) ∧ Same H H') ⟨upd_same, same_new nD⟩ (fun _ _ _ _ => trivial) ?_ ?_
    · rintro i y H1 H2 hi ⟨hD, e1⟩ ⟨rfl, c, hc, rfl⟩
      have hc' : c ∈ signsP.cps.toList := hx.2.2 c (List.mem_of_getElem? (i := i) (by rw [Array.getElem?_toList]; exact hc))
      have l20 : x.cps.size ≤ 20 := hx.2.1
      refine ⟨rfl, _, rfl, c, signsP, rfl, rfl, ?_⟩
      rw [decide_eq_true hc']
      exact ⟨_, hD, by rw [List.length_map, List.length_replicate]; exact small1000 (by omega), by rw [upd_same, rep_snoc], same_up e1 nD⟩
    · rintro H1 ⟨hD, e1⟩
      refine ⟨D, _, rfl, sqOf0 hD, ?_⟩
      rw [all_true]
      exact q H1 e1
theorem scFs : FnScope ["value", "path", "text"] ["value"] (defScope sFiles) := ⟨rfl, rfl, rfl, by decide +kernel, rfl, by decide +kernel, by decide +kernel⟩
theorem ok_files {f : Addr} {fd : FuncData} (F : Fun K "are_files" "are_files" sFiles f fd) (B : Bl mg) (G : Gc mg) (DP : Has P w K mg base CX0 1 "is_path" ["value"] spPath) : FnOk P w K mg base CX0 2 f fd ["value"] spFiles := by
  obtain ⟨t1, g1⟩ := G.mf
  refine F.ok scFs (fun vs H Q E h => ?_) (fun cdv A outer s H vs Q E hr h => ?_)
  · obtain ⟨d, fs, rfl, _⟩ := h
    rfl
  · obtain ⟨d, fs, rfl, hd, FO, q⟩ := h
    refine ⟨_, pss_cons (ps_if (PW.pt (pw_or (pt_not (pt_val (pe_callB call_isi (by rfl) B.isi (by decide +kernel) (pa_cons (pv 0) (pa_cons (pe_bltn (v := .ty "dict") (u := .type "dict") (by rfl) B.dict (by decide +kernel) rfl) pa_nil)))))
          (pw_or1 (pt_cmpR op_gt (pe_callB call_lenD (by rfl) B.len PySem.boot_len (pa_cons (pv 0) pa_nil)) (pe_glob (v := .int 40) (by rfl) g1 ⟨_, rfl⟩) (nomark _)))))
        (pss_one (ps_ret pe_bl)) pss_nil)
      (pss_one (ps_ret (pe_callB (cr_all rfl) (by rfl) B.all (by decide +kernel) (pa_cons (pe_lock (pe_lc (own := [("path", 1), ("text", 2)]) (g := gTup K 2 (gCons (gName 1) (gCons (gName 2) gNil))) (tt := tYes) (te := tAndV (tCl spPath E0 (tCons (tVar 1) tNil)) (tCB (rIsi K) (tCons (tVar 2) (tCons (tC (.ty "str")) tNil)))) rfl scFs.nd (pi_items (pv 0)) (blkOk_by (N := ["value", "path", "text"]) (sc := defScope sFiles) (by decide +kernel))
        ?g2 (fun _ _ _ _ _ => pts_nil) (fun _ _ _ _ _ => pe_and (pe_has DP hr pass0 (pa_cons (pv 1) pa_nil)) (pe_one (pe_callB call_isi (by rfl) B.isi (by decide +kernel) (pa_cons (pv 2) (pa_cons (pe_bltn (v := .ty "str") (u := .type "str") (by rfl) B.str (by decide +kernel) rfl) pa_nil))))))) pa_nil)))), ?_⟩
    case g2 => exact fun _ _ _ _ _ => pg_tup rfl (pgs_cons (pg_name (i := 1) scFs.nd rfl (.inl rfl)) (pgs_cons (pg_name (i := 2) scFs.nd rfl (.inl rfl)) pgs_nil))
    have lk : (kvF fs).length = fs.length := List.length_map ..
    refine ⟨.ref d, rfl, .ref d, .ty "dict", _, _, _, rfl, .ty "dict", .base (.dK hd), kit_ty (r := true) (by decide +kernel), _, rfl, ?_⟩
    show if (!true) = true then _ else _
    refine ⟨_, rfl, d, _, rfl, hd, _, 40, rfl, rfl, _, rfl, ?_⟩
    rw [lk, decide_eq_false (show ¬ (40 : Int) < (fs.length : Int) by have := FO.le; omega)]
    show if false = true then _ else _
    refine ⟨d, _, hd, trivial, fun od => ?_⟩
    have fz : upd H d (.frz od (.dK (kvF fs))) d = some (.frz od (.dK (kvF fs))) := upd_same
    have g0 : ∀ b o, b ≠ d → H b = some o → upd H d (.frz od (.dK (kvF fs))) b = some o := fun b o n e => (upd_ne n).trans e
    generalize upd H d (.frz od (.dK (kvF fs))) = H1 at fz g0 ⊢
    refine ⟨_, rfl, d, od, _, rfl, fz, fun D nD => ?_⟩
    refine lc_it (walk_items (kvs := kvF fs)) (fun i H' => H' D = some (.lst ((List.replicate i true).map V.bl)) ∧ Same H1 H') ⟨upd_same, same_new nD⟩ (fun i H' _ h => h.2 _ _ fz) ?_ ?_
    · rintro i v H2 H3 hi ⟨hD, e2⟩ ⟨Tp, x, y, rfl, nT, rfl, hx, hy⟩
      rw [lk] at hi
      obtain ⟨p, hp⟩ : ∃ p, fs[i]? = some p := ⟨fs[i], List.getElem?_eq_getElem hi⟩
      obtain ⟨rfl, rfl⟩ := item_at hp hx hy
      have e3 : Same H2 (upd H2 Tp (.tup [V.str p.1, V.str p.2])) := same_new nT
      refine ⟨Tp, _, rfl, stOf upd_same, rfl, _, _, rfl, _, _, rfl, rfl, ?_⟩
      have hD3 := e3 _ _ hD
      refine ⟨rfl, _, rfl, p.1, rfl, FO.pt p (List.mem_of_getElem? hp), fun H4 e4 => ⟨_, rfl, ?_⟩⟩
      show if true = true then _ else _
      have hs : Dx K H4 0 (.str p.2) (.str p.2) := .str _
      refine ⟨_, rfl, .str p.2, .ty "str", _, _, _, rfl, .ty "str", hs.ty, kit_ty (kit_str _), ?_⟩
      exact ⟨_, e4 _ _ hD3, by rw [List.length_map, List.length_replicate]; exact small1000 (by have := FO.le; omega), by rw [upd_same]; exact congrArg (fun z => some (HO.lst z)) (rep_snoc i), same_up (e2.trans (e3.trans e4)) nD⟩
    · rintro H2 ⟨hD, e2⟩
      refine ⟨e2 _ _ fz, ?_⟩
      have Dd : D ≠ d := fun z => by rw [z, fz] at nD; cases nD
      refine ⟨D, _, rfl, sqOf0 ((upd_ne Dd).trans hD), ?_⟩
      rw [all_true]
      refine q _ fun b o e => ?_
      by_cases z : b = d
      · rw [z, upd_same]
        rw [z, hd] at e
        exact e
      · exact (upd_ne z).trans (e2 _ _ (g0 b o z e))
end
end Cv

/-! part B18 -/
set_option maxRecDepth 100000
set_option maxHeartbeats 4000000
namespace Cv
open PySem PySem.Spec PyProof.Rows L2
open PySem.W (Frag)
/-! ### != of nested dicts that are equal -/
section
variable {prog : Program} {w : World} {KT : Type} [DecidableEq KT] {knd : KeyKind prog w KT} {A : Around} {s : Shared}
theorem ne_dicts {a b : Addr} {ka kb : List (KT × Value)} {r : Bool} (ha : (a == sysModules) = false) (hb : (b == sysModules) = false)
    (da : s.heap.DictOf knd a ka) (db : s.heap.DictOf knd b kb) (hu : A.units < cLine) (hits : ka.length = kb.length → PySem.W.KeqHitsP prog w A.in1 s kb ka r) (E Q : Value → Shared → Prop) (h : Q (.bool (!(ka.length == kb.length && r))) s) : wpAny (model prog w) A (compareOp .NotEq (.ref a) (.ref b)) Q E s := by
  refine wpAny_richCompare_same_room (op := .NotEq) da.typeIs db.typeIs PySem.F.slot_dict_ne (wpAny_call_entry PySem.F.slot_dict_ne da.typeIs PySem.F.entry_dict_ne ?_ (PySem.F.args_dict_ne_2 _ _)) hu
  show wpAny _ _ (Builtin.Dict.dictSlotArgs "__ne__" ⟨[.ref a, .ref b], []⟩ >>= _) _ _ s
  refine wpAny_bind ?_
  unfold Builtin.Dict.dictSlotArgs
  refine wpAny_bind (wpAny_notOrdered_dict da.typeIs ?_)
  show wpAny _ _ (pure (Value.ref a, Value.ref b)) _ _ s
  refine wpAny_pure ?_
  refine wpAny_bind (wpAny_isInstance (T := "dict") db.typeIs PySem.F.sub_dict_dict ?_)
  simp only [Bool.not_true, Bool.false_eq_true, if_false]
  refine wpAny_bind (wpAny_pure (wpAny_bind (wpAny_pure ?_)))
  refine wpAny_bind (PySem.W.samePairsP ha hb da db hits ?_)
  refine wpAny_pure ⟨_, rfl, ?_, ?_⟩
  · exact fun x => nomatch x
  · simpa using h
end
section
variable {X : Cx}
def EqD (K : Frag) (H : Hp) (n : Nat) (x y : V) : Prop := ∃ a b ks ls, x = .ref a ∧ y = .ref b ∧ H a = some (.dK ks) ∧ H b = some (.dK ls) ∧ ks.length = ls.length ∧ ∀ p ∈ ks, ∃ u, valV ls p.1 = some u ∧ EqV K H n p.2 u
def rNeV (K : Frag) : R2 := fun x y H Q => ∃ n, n ≤ 60 ∧ EqD K H n x y ∧ Q (.bl false) H
theorem op_neV (hu : X.A.units + 64 < cLine) : OpR X (compareOp .NotEq) (rNeV X.K) := by
  intro pins s σ H x y v u Q I rx ry h
  obtain ⟨n, hn, ⟨a, b, ks, ls, rfl, rfl, ha, hb, hl, hp⟩, q⟩ := h
  obtain rfl : v = Value.ref a := rx
  obtain rfl : u = Value.ref b := ry
  obtain ⟨_, ya, va, ra, da⟩ := (show ObjOk X.prog X.w H s.heap a (.dK ks) from I.hok a _ ha)
  obtain ⟨_, yb, vb, rb, db⟩ := (show ObjOk X.prog X.w H s.heap b (.dK ls) from I.hok b _ hb)
  have e : va.length = vb.length := by rw [← ra.length, ← rb.length]; exact hl
  refine ne_dicts (knd := mixKind X.prog X.w) (r := true) ya yb da db (by omega) (fun _ => hits_run (F := EqV X.K H n) (fun x y v u f r1 r2 => eqV_run I n X.A.in1 (by show X.A.units + 1 + n < cLine; omega) x y v u f r1 r2) rb ra hp) _ _ ?_
  rw [show (!(va.length == vb.length && true)) = false from by rw [e]; simp]
  exact ⟨.bl false, H, I, rfl, q⟩
end
end Cv

/-! part B19 -/
set_option maxRecDepth 100000
set_option maxHeartbeats 4000000
namespace Cv
open PySem PySem.Spec PyProof.Rows L2
open PySem.W (Frag)
theorem sameL {K : Frag} {H H' : Hp} {a : Addr} {xs : List V} (e : Same H H') (h : SqL K H a xs) : SqL K H' a xs := eff_l (j := a + 1) (Eff.same e) (Nat.ne_of_lt (Nat.lt_succ_self a)) h
theorem sameT {K : Frag} {H H' : Hp} {a : Addr} {xs : List V} (e : Same H H') (h : SqT K H a xs) : SqT K H' a xs := eff_t (j := a + 1) (Eff.same e) (Nat.ne_of_lt (Nat.lt_succ_self a)) h
/-- names in a tuple, or the keys of a dict -/
def FolAt (K : Frag) (H : Hp) (v : V) (ys : List Str) : Prop := ∃ a, v = .ref a ∧ (SqT K H a (ys.map V.str) ∨ ∃ kvs : List (Key × V), Rd H a (.dK kvs) ∧ kvs.map (·.1) = ys.map Sum.inr)
theorem FolAt.same {K : Frag} {H H' : Hp} {v : V} {ys : List Str} (h : FolAt K H v ys) (e : Same H H') : FolAt K H' v ys := by
  obtain ⟨a, rfl, h | ⟨kvs, h, k⟩⟩ := h
  · exact ⟨a, rfl, .inl (eff_t (j := a + 1) (Eff.same e) (Nat.ne_of_lt (Nat.lt_succ_self a)) h)⟩
  · exact ⟨a, rfl, .inr ⟨kvs, eff_rd (j := a + 1) (Eff.same e) (Nat.ne_of_lt (Nat.lt_succ_self a)) h, k⟩⟩
theorem keys_valV : ∀ {kvs : List (Key × V)} {ys : List Str} (x : Str), kvs.map (·.1) = ys.map Sum.inr → (valV kvs (Sum.inr x)).isSome = decide (x ∈ ys)
  | [], [], x, _ => rfl
  | (k, v) :: kvs, y :: ys, x, h => by
    have h1 : k = Sum.inr y := (List.cons.inj h).1
    have h2 := (List.cons.inj h).2
    subst h1
    by_cases e : y = x
    · subst e
      rw [valV_pos rfl, decide_eq_true List.mem_cons_self]
      rfl
    · rw [valV_neg (fun z => e (Sum.inr.inj z)), keys_valV x h2]
      have : (x ∈ y :: ys) ↔ x ∈ ys := by
        rw [List.mem_cons]
        exact ⟨fun h => h.resolve_left fun z => e z.symm, .inr⟩
      rw [decide_eq_decide.mpr this]
  | [], _ :: _, _, h => by cases h
  | _ :: _, [], _, h => by cases h
section
variable {X : Cx}
/-- x in names -/
def rInE (K : Frag) : R2 := fun x y H Q => rIn K false x y H Q ∨ ∃ a o, y = .ref a ∧ DGet H a x o ∧ Q (.bl o.isSome) H
theorem op_inE (hu : X.A.units + 1 < cLine) : OpR X (compareOp .In) (rInE X.K) := by
  intro pins s σ H x y v u Q I rx ry h
  rcases h with h | ⟨a, o, rfl, g, q⟩
  · exact op_in_seq pins s σ H x y v u Q I rx ry h
  · obtain rfl : u = Value.ref a := ry
    exact d_in hu I g rx fun s3 I3 => ⟨.bl o.isSome, H, I3, rfl, q⟩
theorem inV_strs' (x : Str) (ys : List Str) : inV (.str x) (ys.map V.str) = decide (x ∈ ys) := by
  unfold inV
  rw [List.any_map, Bool.eq_iff_iff, List.any_eq_true, decide_eq_true_eq]
  constructor
  · rintro ⟨y, hy, e⟩
    have e2 : decide (y = x) = true := e
    exact of_decide_eq_true e2 ▸ hy
  · intro h
    exact ⟨x, h, show decide (x = x) = true from decide_eq_true rfl⟩
theorem inE_of {K : Frag} {H : Hp} {v : V} {ys : List Str} {x : Str} {Q : VK} (h : FolAt K H v ys) (q : Q (.bl (decide (x ∈ ys))) H) : rInE K (.str x) v H Q := by
  obtain ⟨a, rfl, h | ⟨kvs, h, k⟩⟩ := h
  · refine .inl ⟨a, _, rfl, .inr h, rfl, ?_, ?_⟩
    · rw [List.all_map, List.all_eq_true]
      intro y _
      rfl
    · show Q (.bl (inV (.str x) (ys.map V.str))) H
      rw [inV_strs']
      exact q
  · refine .inr ⟨a, valV kvs (Sum.inr x), rfl, .inl ⟨kvs, Sum.inr x, h, rfl, rfl⟩, ?_⟩
    rw [keys_valV x k]
    exact q
/-! ### len(set(l)), l a list or a tuple of texts -/
def tLenSetE (K : Frag) (ta : TE) : TE := fun σ H Q => ta σ H fun x H1 => ∃ (l : Addr) (xs : List Str), x = V.ref l ∧ (SqL K H1 l (xs.map V.str) ∨ SqT K H1 l (xs.map V.str)) ∧ xs.length ≤ 4000 ∧ ∀ ys : List Str, ys.Nodup → (∀ y, y ∈ ys ↔ y ∈ xs) → Q (.int ys.length) H1
theorem pe_lenSetE {a : Expr} {ta : TE} {p p2 q pos : Pos} (hc : X.calm = true) (hg : Gl X "len") (hm : X.mg "len" = none) (hg2 : Gl X "set") (hm2 : X.mg "set" = none) (ha : PE X a ta)
    (na : starEach [a] X.env = (false, eval a X.env) :: starEach [] X.env := by rfl) : PE X (.Call (.Name "len" p) [.Call (.Name "set" p2) [a] [] q] [] pos) (tLenSetE X.K ta) := by
  refine ⟨fun pins s σ H Q I h => ?_⟩
  refine Call_ (ld_blt I hg hm PySem.boot_len (PyProof.Rows.callWith_builtin1 (PyProof.Rows.args_cons (Call_ (ld_blt I hg2 hm2 PyProof.Rows.boot_set
    (PyProof.Rows.callWith_type1 (PyProof.Rows.args_cons (thn (ha.run pins s σ H _ I h) fun v s1 ⟨x, H1, I1, r1, q1⟩ => PyProof.Rows.args_nil ?_) na) na rfl))) rfl) rfl rfl))
  obtain ⟨l, xs, rfl, hq, hz, q1⟩ := q1
  cases r1
  have hl : ∃ its, Vals (xs.map V.str) its ∧ (s1.heap.IsTuple l its.toArray ∨ s1.heap.IsList l its.toArray) := by
    rcases hq with hq | hq
    · obtain ⟨its, r, pt, _⟩ := I1.list hq
      exact ⟨its, r, .inr pt.isList⟩
    · obtain ⟨its, r, pt, _⟩ := I1.tuple hq
      exact ⟨its, r, .inl pt⟩
  obtain ⟨its, r, pt⟩ := hl
  refine sx_of (I1.ok.hd hc) pt (xs := xs) (by simpa using r.strs) (by unfold scanBound; omega) fun h' tk ys hS nd hm ll hk => PyProof.Rows.args_nil ?_
  obtain ⟨⟨es, ep, t⟩, ho, F, _, _⟩ := hS.ex
  have I2 : Inv X pins σ H1 { s1 with heap := h', toks := tk } := I1.kept hk
  have sz : es.size = ys.length := F.sz
  refine call_len_set ho ⟨rfl, rfl, rfl⟩ rfl F.fit (by rw [sz]; omega) ⟨.int ys.length, H1, I2.tok _, ⟨_, by rw [sz]⟩, q1 ys nd hm⟩
/-! ### walks over a list or a tuple -/
def SeqR (K : Frag) (a : Addr) (H1 : Hp) (R : It → Hp → Prop) : Prop := ((∃ xs, SqL K H1 a xs) ∧ R (Itl K a) H1) ∨ ((∃ xs, SqT K H1 a xs) ∧ R (Itt K a) H1)
def iSeq (K : Frag) (tl : TE) : TI := fun σ H R => tl σ H fun x H1 => ∃ a, x = .ref a ∧ SeqR K a H1 R
theorem pi_seq {tg l : Expr} {tl : TE} (hl : PE X l tl) : PI X tg l (iSeq X.K tl) := by
  refine ⟨fun pins s σ H R I h => ?_⟩
  refine thn (hl.run pins s σ H _ I h) fun v s1 ⟨x, H1, I1, r1, q1⟩ => ?_
  obtain ⟨a, e, q⟩ := q1
  subst e
  cases r1
  rcases q with ⟨⟨xs, hq⟩, q⟩ | ⟨⟨xs, hq⟩, q⟩
  · obtain ⟨its, rv, p, hz⟩ := I1.list hq
    refine wpAny_pyIter_list p.isList ?_
    refine ⟨s1.heap.objs.size, [s1.heap.objs.size], _, _, H1, rfl, I1.kept (t' := s1.toks) fun b o e => Heap.get?_push_of_some _ e, turn_list a _, ⟨_, Heap.get?_push_size _ rfl, rfl, rfl⟩, fun b hb => ?_, q⟩
    have e : b = s1.heap.objs.size := by simpa using hb
    subst e
    exact I1.fpOk (Nat.le_refl _) (I1.hok.fresh (Nat.le_refl _))
  · obtain ⟨its, rv, p, hz⟩ := I1.tuple hq
    refine wpAny_pyIter_tuple (show s1.heap.IsTuple a its.toArray from p) ?_
    refine ⟨s1.heap.objs.size, [s1.heap.objs.size], _, _, H1, rfl, I1.kept (t' := s1.toks) fun b o e => Heap.get?_push_of_some _ e, turn_tuple a _, ⟨_, Heap.get?_push_size _ rfl, rfl, rfl⟩, fun b hb => ?_, q⟩
    have e : b = s1.heap.objs.size := by simpa using hb
    subst e
    exact I1.fpOk (Nat.le_refl _) (I1.hok.fresh (Nat.le_refl _))
theorem iSeq_of {K : Frag} {H1 : Hp} {R : It → Hp → Prop} {a : Addr} {xs : List V} (hs : SqL K H1 a xs ∨ SqT K H1 a xs)
    (q : ∀ (J : It) (G : Hp → Prop), Walk J xs.length G (YAt xs) → (∀ H', Same H1 H' → G H') → R J H1) : SeqR K a H1 R := by
  rcases hs with hs | hs
  · exact .inl ⟨⟨xs, hs⟩, q _ _ (walk_list (K := K) (a := a)) fun H' e => eff_l (j := a + 1) (Eff.same e) (Nat.ne_of_lt (Nat.lt_succ_self a)) hs⟩
  · exact .inr ⟨⟨xs, hs⟩, q _ _ (walk_tup (K := K) (a := a)) fun H' e => eff_t (j := a + 1) (Eff.same e) (Nat.ne_of_lt (Nat.lt_succ_self a)) hs⟩
end
end Cv

/-! part K08CD -/
set_option maxRecDepth 100000
set_option maxHeartbeats 4000000
namespace Cv
open PySem PySem.Spec PyProof.Rows L2
def isDic : PyData → Bool
  | .dict _ => true
  | _ => false
theorem kit_dic : ∀ d : PyData, kitB (tyN d) "dict" = some (isDic d)
  | .none => by decide +kernel
  | .bool _ => by show kitB "bool" "dict" = some false; decide +kernel
  | .int _ => by show kitB "int" "dict" = some false; decide +kernel
  | .str _ => by show kitB "str" "dict" = some false; decide +kernel
  | .list _ => by show kitB "list" "dict" = some false; decide +kernel
  | .tuple _ => by show kitB "tuple" "dict" = some false; decide +kernel
  | .dict _ => by show kitB "dict" "dict" = some true; decide +kernel
def hasNamesK (ks : List PyData) : Bool := (decide (1 ≤ ks.length) && decide (ks.length ≤ 20)) && ks.all isNameD
def spHasN (K : PySem.W.Frag) : Sp := fun vs H Q _ => (∃ (j : Addr) (v : V) (d : PyData), vs = [v] ∧ Dx K H j v d ∧ isDic d = false ∧ ∀ H', Same H H' → Q (.bl false) H') ∨
  (∃ (c : Addr) (kvs : List (Key × V)), vs = [.ref c] ∧ H c = some (.dK kvs) ∧ (∀ kv ∈ kvs, smD (keyD kv.1) = true) ∧ ∀ H', Same H H' → Q (.bl (hasNamesK (kvs.map fun kv => keyD kv.1))) H')
theorem key_dx {K : PySem.W.Frag} {H : Hp} {j : Addr} : ∀ k : Key, Dx K H j (kV k) (keyD k)
  | .inl i => .int i
  | .inr x => .str x
section
variable {P : Program} {w : World} {K : PySem.W.Frag} {mg : Str → Option Value} {base : Heap}
theorem scHn : FnScope ["value", "name"] ["value"] (defScope sHasNames) := ⟨rfl, rfl, rfl, by decide +kernel, rfl, by decide +kernel, by decide +kernel⟩
theorem ok_hasN {f : Addr} {fd : FuncData} (F : Fun K "has_names" "has_names" sHasNames f fd) (B : Bl mg) (GM : ∃ t, mg "MOST_FOLDERS" = some (.int 20 t)) (DN : Has P w K mg base CX0 1 "is_name" ["value"] (spD K isNameD)) : FnOk P w K mg base CX0 2 f fd ["value"] (spHasN K) := by
  obtain ⟨t1, g1⟩ := GM
  refine F.ok scHn (fun vs H Q E h => ?_) (fun cdv A outer s H vs Q E hr h => ?_)
  · rcases h with ⟨j, v, d, rfl, _⟩ | ⟨c, kvs, rfl, _⟩ <;> rfl
  · refine ⟨_, pss_cons (ps_if (PW.pt (pw_or (pt_not (pt_val (pe_callB call_isi (by rfl) B.isi (by decide +kernel) (pa_cons (pv 0) (pa_cons (pe_bltn (v := .ty "dict") (u := .type "dict") (by rfl) B.dict (by decide +kernel) rfl) pa_nil)))))
          (pw_or1 (pt_not (pt_chain op_le op_le pe_int (pe_callB call_lenD (by rfl) B.len PySem.boot_len (pa_cons (pv 0) pa_nil)) (pe_glob (v := .int 20) (by rfl) g1 ⟨_, rfl⟩))))))
        (pss_one (ps_ret pe_bl)) pss_nil)
      (pss_one (ps_ret (pe_callB (cr_all rfl) (by rfl) B.all (by decide +kernel) (pa_cons (pe_lock (pe_lc (own := [("name", 1)]) (tt := tYes) (te := tCl (spD K isNameD) E0 (tCons (tVar 1) tNil)) rfl scHn.nd (pi_keys (pv 0)) (blkOk_by (N := ["value", "name"]) (sc := defScope sHasNames) (by decide +kernel))
        (fun _ _ _ _ _ => pg_name (i := 1) scHn.nd rfl (.inl rfl)) (fun _ _ _ _ _ => pts_nil) (fun _ _ _ _ _ => pe_has DN hr pass0 (pa_cons (pv 1) pa_nil)))) pa_nil)))), ?_⟩
    rcases h with ⟨j, v, d, rfl, hx, nd, q⟩ | ⟨c, kvs, rfl, hd, sm, q⟩
    · refine ⟨v, rfl, v, .ty "dict", _, _, _, rfl, .ty "dict", hx.ty, kit_ty (kit_dic d), isDic d, rfl, ?_⟩
      rw [nd]
      exact q H (Same.refl H)
    · have lk : (kvs.map fun kv => keyD kv.1).length = kvs.length := List.length_map ..
      refine ⟨.ref c, rfl, .ref c, .ty "dict", _, _, _, rfl, .ty "dict", .base (.dK hd), kit_ty (r := true) (by decide +kernel), _, rfl, ?_⟩
      show if (!true) = true then _ else _
      refine ⟨_, rfl, c, _, rfl, hd, 1, _, rfl, rfl, _, rfl, ?_⟩
      have out : ¬ (1 ≤ kvs.length ∧ kvs.length ≤ 20) → Q (.bl false) H := fun h => by
        have := q H (Same.refl H)
        rw [hasNamesK, lk] at this
        by_cases h1 : 1 ≤ kvs.length
        · rw [decide_eq_false (show ¬ kvs.length ≤ 20 from fun z => h ⟨h1, z⟩), Bool.and_false, Bool.false_and] at this
          exact this
        · rw [decide_eq_false h1, Bool.false_and, Bool.false_and] at this
          exact this
      show if decide ((1 : Int) ≤ (kvs.length : Int)) = true then _ else _
      refine ite2 (fun c1 => ?_) (fun c1 => ?_)
      · refine ⟨_, 20, rfl, rfl, _, rfl, ?_⟩
        show if (!decide ((kvs.length : Int) ≤ 20)) = true then _ else _
        refine ite2 (fun c4 => ?_) (fun c4 => ?_)
        · refine out fun z => ?_
          rw [decide_eq_true (show (kvs.length : Int) ≤ 20 by omega)] at c4
          exact nomatch c4
        · have lo : 1 ≤ kvs.length := by have := of_decide_eq_true c1; omega
          have hi : kvs.length ≤ 20 := by
            by_cases z : (kvs.length : Int) ≤ 20
            · omega
            · rw [decide_eq_false z] at c4
              exact absurd rfl c4
          refine ⟨c, _, hd, trivial, fun od => ?_⟩
          have fz : upd H c (.frz od (.dK kvs)) c = some (.frz od (.dK kvs)) := upd_same
          have g0 : ∀ b o, b ≠ c → H b = some o → upd H c (.frz od (.dK kvs)) b = some o := fun b o n e => (upd_ne n).trans e
          generalize upd H c (.frz od (.dK kvs)) = H1 at fz g0 ⊢
          refine ⟨_, rfl, c, od, rfl, .inl ⟨_, fz, fun D nD => ?_⟩⟩
          refine lc_it (walk_keys (kvs := kvs)) (fun i H' => H' D = some (.lst ((((kvs.map fun kv => keyD kv.1).take i).map isNameD).map V.bl)) ∧ Same H1 H') ⟨upd_same, same_new nD⟩ (fun i H' _ h => h.2 _ _ fz) ?_ ?_
          · rintro i x H3 H4 hi9 ⟨hD, e4⟩ ⟨rfl, kk, vv, hkv, rfl⟩
            refine ⟨rfl, _, rfl, 0, kV kk, keyD kk, rfl, key_dx kk, sm _ (List.mem_of_getElem? hkv), fun H5 e5 => ?_⟩
            refine ⟨_, e5 _ _ hD, ?_, ?_, same_up (e4.trans e5) nD⟩
            · rw [List.length_map, List.length_map, List.length_take]
              exact Nat.lt_of_le_of_lt (show _ ≤ 1000 by omega) (by decide)
            · have hk2 : (kvs.map fun kv => keyD kv.1)[i]? = some (keyD kk) := by rw [List.getElem?_map, hkv]; rfl
              rw [upd_same, List.take_add_one, hk2, List.map_append, List.map_append]
              rfl
          · rintro H2 ⟨hD, e2⟩
            refine ⟨e2 _ _ fz, ?_⟩
            have Dd : D ≠ c := fun z => by rw [z, fz] at nD; cases nD
            refine ⟨D, _, rfl, sqOf0 ((upd_ne Dd).trans hD), ?_⟩
            have e : (((kvs.map fun kv => keyD kv.1).take kvs.length).map isNameD).all id = (kvs.map fun kv => keyD kv.1).all isNameD := by
              rw [List.take_of_length_le (by rw [lk]; exact Nat.le_refl _), List.all_map]
              rfl
            rw [e]
            have := q (upd H2 c (.dK kvs)) fun b o e => by
              by_cases z : b = c
              · rw [z, upd_same]
                rw [z, hd] at e
                exact e
              · exact (upd_ne z).trans (e2 _ _ (g0 b o z e))
            rw [hasNamesK, lk, decide_eq_true lo, decide_eq_true hi, Bool.true_and, Bool.true_and] at this
            exact this
      · refine ⟨_, rfl, ?_⟩
        show if (!false) = true then _ else _
        exact out fun z => c1 (decide_eq_true (show (1 : Int) ≤ (kvs.length : Int) by omega))
end
end Cv

/-! part K08Z -/
set_option maxRecDepth 100000
set_option maxHeartbeats 4000000
namespace Cv
open PySem PySem.Spec PyProof.Rows L2
/-- contents at c: the names, where their files stand -/
structure ConAt (H : Hp) (c : Addr) (ks : List Str) (ad : Str → Addr) (F : Str → Fs) : Prop where
  at_ : H c = some (.dK (kvR ks ad))
  files : ∀ y ∈ ks, H (ad y) = some (.dK (kvF (F y)))
  ne : ∀ y ∈ ks, ad y ≠ c
structure ConOk (ks : List Str) (F : Str → Fs) : Prop where
  fo : Fold ks
  fi : ∀ y ∈ ks, FilesOk (F y)
theorem ConAt.same {H H' : Hp} {c : Addr} {ks : List Str} {ad : Str → Addr} {F : Str → Fs} (h : ConAt H c ks ad F) (e : Same H H') : ConAt H' c ks ad F := ⟨e _ _ h.at_, fun y hy => e _ _ (h.files y hy), h.ne⟩
def spCont : Sp := fun vs H Q _ => ∃ (c : Addr) (ks : List Str) (ad : Str → Addr) (F : Str → Fs), vs = [.ref c] ∧ ConAt H c ks ad F ∧ ConOk ks F ∧ ∀ H', Same H H' → Q (.bl true) H'
def spSrtF : Sp := fun vs H Q _ => ∃ (d : Addr) (fs : Fs), vs = [.ref d] ∧ H d = some (.dK (kvF fs)) ∧ (fs.map (·.1)).Nodup ∧ fs.length ≤ 40 ∧ ∀ (r : Addr) (gs : Fs) (H' : Hp), IsSrt fs gs → H r = none → H' r = some (.dK (kvF gs)) → Same H H' → Q (.ref r) H'
theorem kvF_map (l : List Str) (f : Str → Str) : kvF (l.map fun k => (k, f k)) = kvS l fun k => V.str (f k) := by
  show (l.map fun k => (k, f k)).map (fun p => ((Sum.inr p.1 : Key), V.str p.2)) = _
  rw [List.map_map]
  rfl
theorem kvR_at {ks : List Str} {ad : Str → Addr} {i : Nat} {y : Str} {x z : V} (hp : ks[i]? = some y) (hx : ((kvR ks ad)[i]?.map fun kv => kV kv.1) = some x) (hy : ((kvR ks ad)[i]?.map Prod.snd) = some z) : x = V.str y ∧ z = V.ref (ad y) := by
  have ek : (kvR ks ad)[i]? = some (Sum.inr y, V.ref (ad y)) := by rw [List.getElem?_map, hp]; rfl
  rw [ek] at hx hy
  exact ⟨(Option.some.inj hx).symm, (Option.some.inj hy).symm⟩
section
variable {P : Program} {w : World} {K : PySem.W.Frag} {mg : Str → Option Value} {base : Heap}
theorem scCt : FnScope ["value", "files"] ["value"] (defScope sCont) := ⟨rfl, rfl, rfl, by decide +kernel, rfl, by decide +kernel, by decide +kernel⟩
theorem ok_cont {f : Addr} {fd : FuncData} (F : Fun K "are_contents" "are_contents" sCont f fd) (B : Bl mg) (DH : Has P w K mg base CX0 2 "has_names" ["value"] (spHasN K)) (DF : Has P w K mg base CX0 2 "are_files" ["value"] spFiles) : FnOk P w K mg base CX0 3 f fd ["value"] spCont := by
  refine F.ok scCt (fun vs H Q E h => ?_) (fun cdv A outer s H vs Q E hr h => ?_)
  · obtain ⟨c, ks, ad, F, rfl, _⟩ := h
    rfl
  · obtain ⟨c, ks, ad, FF, rfl, CA, CO, q⟩ := h
    refine ⟨_, pss_one (ps_ret (pe_and (pe_has DH hr pass0 (pa_cons (pv 0) pa_nil)) (pe_one (pe_callB (cr_all rfl) (by rfl) B.all (by decide +kernel) (pa_cons (pe_lock (pe_lc (own := [("files", 1)]) (tt := tYes) (te := tCl spFiles E0 (tCons (tVar 1) tNil)) rfl scCt.nd (pi_values (pv 0)) (blkOk_by (N := ["value", "files"]) (sc := defScope sCont) (by decide +kernel))
        (fun _ _ _ _ _ => pg_name (i := 1) scCt.nd rfl (.inl rfl)) (fun _ _ _ _ _ => pts_nil) (fun _ _ _ _ _ => pe_has DF hr pass0 (pa_cons (pv 1) pa_nil)))) pa_nil))))), ?_⟩
    have lk : (kvR ks ad).length = ks.length := List.length_map ..
    have ek : (kvR ks ad).map (fun kv => keyD kv.1) = ks.map PyData.str := by rw [List.map_map]; rfl
    refine ⟨_, rfl, .inr ⟨c, _, rfl, CA.at_, fun kv hkv => ?_, fun H0 e0 => ?_⟩⟩
    · obtain ⟨y, hy, rfl⟩ := List.mem_map.mp hkv
      exact (nm_gd (CO.fo.nm y hy) 0).sm
    have hd := e0 _ _ CA.at_
    have hn : hasNamesK ((kvR ks ad).map fun kv => keyD kv.1) = true := by
      rw [ek, hasNamesK, List.length_map, decide_eq_true CO.fo.lo, decide_eq_true CO.fo.hi, List.all_map, List.all_eq_true.mpr (fun y hy => show (isNameD ∘ PyData.str) y = true from nm_nmB (CO.fo.nm y hy))]
      rfl
    refine ⟨_, rfl, ?_⟩
    rw [hn]
    show if true = true then _ else _
    refine ⟨c, _, hd, trivial, fun od => ?_⟩
    have fz : upd H0 c (.frz od (.dK (kvR ks ad))) c = some (.frz od (.dK (kvR ks ad))) := upd_same
    have fl : ∀ y ∈ ks, upd H0 c (.frz od (.dK (kvR ks ad))) (ad y) = some (.dK (kvF (FF y))) := fun y hy => (upd_ne (CA.ne y hy)).trans (e0 _ _ (CA.files y hy))
    have g0 : ∀ b o, b ≠ c → H0 b = some o → upd H0 c (.frz od (.dK (kvR ks ad))) b = some o := fun b o n e => (upd_ne n).trans e
    generalize upd H0 c (.frz od (.dK (kvR ks ad))) = H1 at fz g0 fl ⊢
    refine ⟨_, rfl, c, od, _, rfl, fz, fun D nD => ?_⟩
    refine lc_it (walk_values (kvs := kvR ks ad)) (fun i H' => H' D = some (.lst ((List.replicate i true).map V.bl)) ∧ Same H1 H') ⟨upd_same, same_new nD⟩ (fun i H' _ h => h.2 _ _ fz) ?_ ?_
    · rintro i v H2 H3 hi ⟨hD, e2⟩ ⟨rfl, k, hk⟩
      rw [lk] at hi
      obtain ⟨z, hz⟩ : ∃ z, ks[i]? = some z := ⟨ks[i], List.getElem?_eq_getElem hi⟩
      have mz := List.mem_of_getElem? hz
      have ev : v = .ref (ad z) := by
        rw [List.getElem?_map, hz] at hk
        exact (congrArg Prod.snd (Option.some.inj hk)).symm
      subst ev
      refine ⟨rfl, _, rfl, ad z, FF z, rfl, e2 _ _ (fl z mz), CO.fi z mz, fun H5 e5 => ?_⟩
      exact ⟨_, e5 _ _ hD, by rw [List.length_map, List.length_replicate]; exact small1000 (by have := CO.fo.hi; omega), by rw [upd_same]; exact congrArg (fun z => some (HO.lst z)) (rep_snoc i), same_up (e2.trans e5) nD⟩
    · rintro H2 ⟨hD, e2⟩
      refine ⟨e2 _ _ fz, ?_⟩
      have Dd : D ≠ c := fun z => by rw [z, fz] at nD; cases nD
      refine ⟨D, _, rfl, sqOf0 ((upd_ne Dd).trans hD), ?_⟩
      rw [all_true]
      refine q _ fun b o e => ?_
      by_cases z : b = c
      · rw [z, upd_same]
        have := e0 _ _ e
        rw [z, hd] at this
        exact this
      · exact (upd_ne z).trans (e2 _ _ (g0 b o z (e0 _ _ e)))
theorem scSf : FnScope ["files", "path"] ["files"] (defScope sSrtF) := ⟨rfl, rfl, rfl, by decide +kernel, rfl, by decide +kernel, by decide +kernel⟩
theorem ok_srtF {f : Addr} {fd : FuncData} (F : Fun K "sorted_files" "sorted_files" sSrtF f fd) (B : Bl mg) : FnOk P w K mg base CX0 1 f fd ["files"] spSrtF := by
  refine F.ok scSf (fun vs H Q E h => ?_) (fun cdv A outer s H vs Q E hr h => ?_)
  · obtain ⟨d, fs, rfl, _⟩ := h
    rfl
  · obtain ⟨d, fs, rfl, hd, nd, le, q⟩ := h
    refine ⟨_, pss_one (ps_ret (pe_dc (own := [("path", 1)]) (tt := tYes) (tk := tVar 1) (tv := tDGet (tVar 0) (tVar 1)) rfl scSf.nd (pi_list (pe_callB (call_sortedD rfl) (by rfl) B.sorted (by decide +kernel) (pa_cons (pv 0) pa_nil))) (blkOk_by (N := ["files", "path"]) (sc := defScope sSrtF) (by decide +kernel))
        (fun _ _ _ _ _ => pg_name (i := 1) scSf.nd rfl (.inl rfl)) (fun _ _ _ _ _ => pts_nil) (fun _ _ _ _ _ => pv 1) (fun _ _ _ _ _ => pe_dget (hu1 hr) (pv 0) (pv 1) (fun _ _ => rfl)))), ?_⟩
    refine ⟨_, rfl, d, kvF fs, fs.map (·.1), rfl, .inl hd, by rw [List.map_map, List.map_map]; rfl, by rw [List.length_map]; omega, fun ks p pm so np => ?_⟩
    have e1 : Same H (upd H p (.lst (ks.map V.str))) := same_new np
    have hp : upd H p (.lst (ks.map V.str)) p = some (.lst (ks.map V.str)) := upd_same
    have knd : ks.Nodup := pm.nodup_iff.mpr nd
    have kle : ks.length ≤ 40 := by rw [pm.length_eq, List.length_map]; exact le
    refine ⟨p, rfl, ⟨_, sqOf0 hp⟩, fun D nD => ?_⟩
    have fD : H D = none := e1.free nD
    generalize upd H p (.lst (ks.map V.str)) = H1 at e1 hp nD ⊢
    refine any_it (walk_list (xs := ks.map V.str)) (fun i H' => H' D = some (.dK (kvS (ks.take i) fun k => .str ((getF fs k).getD Str.empty))) ∧ Same H1 H') ⟨upd_same, same_new nD⟩ (fun i H' _ h => sqOf0 (h.2 _ _ hp)) ?_ ?_
    · rintro i x H2 H3 hi ⟨hD, e2⟩ ⟨rfl, hx⟩
      obtain ⟨k, hk, rfl⟩ := strs_at hx
      have mk : k ∈ fs.map (·.1) := pm.mem_iff.mp (List.mem_of_getElem? hk)
      obtain ⟨v, hv⟩ : ∃ v, getF fs k = some v := by
        cases h : getF fs k with
        | none => exact absurd mk (getF_none.mp h)
        | some v => exact ⟨v, rfl⟩
      have g : DGet H3 d (.str k) (some (.str ((getF fs k).getD Str.empty))) := by
        have e : valV (kvF fs) (Sum.inr k) = some (.str ((getF fs k).getD Str.empty)) := by rw [kvF_val, hv]; rfl
        exact e ▸ DGet.k (k := .inr k) ((e1.trans e2) _ _ hd)
      refine ⟨rfl, _, rfl, _, rfl, _, rfl, d, _, rfl, g, ?_⟩
      refine ⟨_, .inr k, rfl, hD, by rw [List.length_map]; exact small1000 (by rw [List.length_take]; omega), ?_, same_up e2 nD⟩
      show upd H3 D (.dK (putK (kvS (ks.take i) fun k => .str ((getF fs k).getD Str.empty)) (.inr k) (.str ((getF fs k).getD Str.empty)))) D = _
      rw [upd_same, kvS_add (g := fun k => V.str ((getF fs k).getD Str.empty)) (nin_take knd hk), List.take_add_one, hk]
      rfl
    · rintro H2 ⟨hD, e2⟩
      rw [List.length_map, List.take_of_length_le (Nat.le_refl _)] at hD
      refine q D _ H2 ⟨ks, pm, so, rfl⟩ fD ?_ (e1.trans e2)
      rw [kvF_map]
      exact hD
end
end Cv

/-! part K08R -/
set_option maxRecDepth 100000
set_option maxHeartbeats 4000000
namespace Cv
open PySem PySem.Spec PyProof.Rows L2
/-- the new contents at d -/
structure ResAt (H0 H : Hp) (d : Addr) (ks : List Str) (ad : Str → Addr) (G : Str → Fs) : Prop where
  at_ : H d = some (.dK (kvR ks ad))
  files : ∀ y ∈ ks, H (ad y) = some (.dK (kvF (G y)))
  ne : ∀ y ∈ ks, ad y ≠ d
  fd : H0 d = none
  fr : ∀ y ∈ ks, H0 (ad y) = none
theorem ResAt.same {H0 H H' : Hp} {d : Addr} {ks : List Str} {ad : Str → Addr} {G : Str → Fs} (h : ResAt H0 H d ks ad G) (e : Same H H') : ResAt H0 H' d ks ad G := ⟨e _ _ h.at_, fun y hy => e _ _ (h.files y hy), h.ne, h.fd, h.fr⟩
def spRun (K : PySem.W.Frag) : Sp := fun vs H Q _ => ∃ (j c p : Addr) (ks0 PT : List Str) (ad0 : Str → Addr) (F : Str → Fs) (cs : List Cp), vs = [.ref c, .ref p] ∧ ConAt H c ks0 ad0 F ∧ ConOk ks0 F ∧ PT.length ≤ 40 ∧ AllOk PT ks0 F ∧ Scr ks0 cs ∧ Dx K H j (.ref p) (planD cs) ∧
  ∀ (d : Addr) (ks : List Str) (ad : Str → Addr) (G : Str → Fs) (H' : Hp), ks.Perm ks0 → sortedS ks = true → (∀ y ∈ ks, IsSrt (runF cs F y) (G y)) → ResAt H H' d ks ad G → Same H H' → Q (.ref d) H'
/-- between two copies -/
structure NowAt (H0 H : Hp) (d : Addr) (ks : List Str) (ad : Str → Addr) (F : Str → Fs) : Prop where
  at_ : H d = some (.dK (kvR ks ad))
  files : ∀ y ∈ ks, H (ad y) = some (.dK (kvF (F y)))
  ne : ∀ y ∈ ks, ad y ≠ d
  fd : H0 d = none
theorem NowAt.same {H0 H H' : Hp} {d : Addr} {ks : List Str} {ad : Str → Addr} {F : Str → Fs} (h : NowAt H0 H d ks ad F) (e : Same H H') : NowAt H0 H' d ks ad F := ⟨e _ _ h.at_, fun y hy => e _ _ (h.files y hy), h.ne, h.fd⟩
theorem NowAt.put {H0 H : Hp} {d r : Addr} {ks : List Str} {ad : Str → Addr} {F : Str → Fs} {t : Str} {v : Fs} (h : NowAt H0 H d ks ad F) (ht : t ∈ ks) (hr : H r = some (.dK (kvF v))) (rd : r ≠ d) :
    NowAt H0 (upd H d (.dK (putK (kvR ks ad) (Sum.inr t) (V.ref r)))) d ks (upA ad t r) (upF F t v) := by
  rw [kv_put ht]
  refine ⟨upd_same, fun y hy => ?_, fun y hy => ?_, h.fd⟩
  · show upd H d _ (if y = t then r else ad y) = some (.dK (kvF (if y = t then v else F y)))
    by_cases e : y = t
    · rw [if_pos e, if_pos e, upd_ne rd]; exact hr
    · rw [if_neg e, if_neg e, upd_ne (h.ne y hy)]; exact h.files y hy
  · show (if y = t then r else ad y) ≠ d
    by_cases e : y = t
    · rw [if_pos e]; exact rd
    · rw [if_neg e]; exact h.ne y hy
section
variable {P : Program} {w : World} {K : PySem.W.Frag} {mg : Str → Option Value} {base : Heap}
abbrev NRu : List Str := ["contents", "copies", "now", "word", "source", "target", "name"]
def spChkCt : Sp := fun vs H Q _ => ∃ (c : Addr) (ks : List Str) (ad : Str → Addr) (F : Str → Fs), vs = [.ref c] ∧ ConAt H c ks ad F ∧ ConOk ks F ∧ ∀ M, Same H M → Q .non M
theorem scCkc : FnScope ["contents"] ["contents"] (defScope sCheckContents) := ⟨rfl, rfl, rfl, by decide +kernel, rfl, by decide +kernel, by decide +kernel⟩
theorem ok_chkCt {f : Addr} {fd : FuncData} (F : Fun K "check_contents" "check_contents" sCheckContents f fd) (DC : Has P w K mg base CX0 3 "are_contents" ["value"] spCont) : FnOk P w K mg base CX0 4 f fd ["contents"] spChkCt := by
  refine F.ok scCkc (fun vs H Q E h => ?_) (fun cdv A outer s H vs Q E hr h => ?_)
  · obtain ⟨c, ks, ad, FF, rfl, _⟩ := h
    rfl
  · obtain ⟨c, ks, ad, FF, rfl, CA, CO, q⟩ := h
    refine ⟨_, pss_one (ps_if (pt_not (pt_val (pe_has DC hr pass0 (pa_cons (pv 0) pa_nil)))) (pss_one ps_dead) pss_nil), ?_⟩
    exact ⟨_, rfl, c, ks, ad, FF, rfl, CA, CO, fun H2 e => ⟨_, rfl, q H2 e⟩⟩
theorem scRu : FnScope NRu ["contents", "copies"] (defScope sRun) := ⟨rfl, rfl, rfl, by decide +kernel, rfl, by decide +kernel, by decide +kernel⟩
theorem ok_run {f : Addr} {fd : FuncData} (F : Fun K "run" "run" sRun f fd) (B : Bl mg) (DC : Has P w K mg base CX0 4 "check_contents" ["contents"] spChkCt) (DS : Has P w K mg base CX0 4 "check_script" ["copies", "folders"] (spChkS K))
    (DF : Has P w K mg base CX0 1 "sorted_files" ["files"] spSrtF) : FnOk P w K mg base CX0 5 f fd ["contents", "copies"] (spRun K) := by
  refine F.ok scRu (fun vs H Q E h => ?_) (fun cdv A outer s H vs Q E hr h => ?_)
  · obtain ⟨j, c, p, ks0, PT, ad0, F, cs, rfl, _⟩ := h
    rfl
  · obtain ⟨j, c, p, ks0, PT, ad0, FF, cs, rfl, CA, CO, p40, AO, SC, Dp, q⟩ := h
    refine ⟨_, pss_cons (ps_expr (pe_has DC hr pass0 (pa_cons (pv 0) pa_nil)))
      (pss_cons (ps_expr (pe_has DS hr pass0 (pa_cons (pv 1) (pa_cons (pe_callTy (call_tupD rfl) (by rfl) B.tuple (by decide +kernel) (pa_cons (pv 0) pa_nil)) pa_nil))))
      (pss_cons (ps_set (i := 2) scRu.nd rfl (.inr rfl) (pe_dc (own := [("name", 6)]) (tt := tYes) (tk := tVar 6) (tv := tDGet (tVar 0) (tVar 6)) rfl scRu.nd (pi_list (pe_callB (call_sortedD rfl) (by rfl) B.sorted (by decide +kernel) (pa_cons (pv 0) pa_nil))) (blkOk_by (N := NRu) (sc := defScope sRun) (by decide +kernel))
          (fun _ _ _ _ _ => pg_name (i := 6) scRu.nd rfl (.inl rfl)) (fun _ _ _ _ _ => pts_nil) (fun _ _ _ _ _ => pv 6) (fun _ _ _ _ _ => pe_dget (hu1 hr) (pv 0) (pv 6) (fun _ _ => rfl))))
      (pss_cons (ps_for PassesOwn.never rfl (pi_tup (pv 1)) (pg_tup rfl (pgs_cons (pg_name (i := 3) scRu.nd rfl (.inl rfl)) (pgs_cons (pg_name (i := 4) scRu.nd rfl (.inl rfl)) (pgs_cons (pg_name (i := 5) scRu.nd rfl (.inl rfl)) pgs_nil))))
        (pss_one (ps_if (pt_cmpR op_eq (pv 3) pe_str (nomark _))
          (pss_one (ps_dput (hu1 hr) (pv 2) (pv 5) (pe_star2 (pe_dget (hu1 hr) (pv 2) (pv 5) (fun _ _ => rfl)) (pe_dget (hu1 hr) (pv 2) (pv 4) (fun _ _ => rfl))) rfl))
          (pss_one (ps_dput (hu1 hr) (pv 2) (pv 5) (pe_star2 (pe_dget (hu1 hr) (pv 2) (pv 4) (fun _ _ => rfl)) (pe_dget (hu1 hr) (pv 2) (pv 5) (fun _ _ => rfl))) rfl)))))
      (pss_one (ps_ret (pe_lock (pe_dc (own := [("name", 6)]) (tt := tYes) (tk := tVar 6) (tv := tCl spSrtF E0 (tCons (tDGet (tVar 2) (tVar 6)) tNil)) rfl scRu.nd (pi_keys (pv 2)) (blkOk_by (N := NRu) (sc := defScope sRun) (by decide +kernel))
          (fun _ _ _ _ _ => pg_name (i := 6) scRu.nd rfl (.inl rfl)) (fun _ _ _ _ _ => pts_nil) (fun _ _ _ _ _ => pv 6) (fun _ _ _ _ _ => pe_has DF hr pass0 (pa_cons (pe_dget (hu1 hr) (pv 2) (pv 6) (fun _ _ => rfl)) pa_nil))))))))), ?_⟩
    obtain ⟨paj, xs, sP, tP⟩ := tup_inv Dp
    have el := tP.len
    rw [List.length_map] at el
    have k20 := CO.fo.hi
    -- the checks
    refine ⟨_, rfl, c, ks0, ad0, FF, rfl, CA, CO, fun H1 e1 => ?_⟩
    have CA1 := CA.same e1
    refine ⟨_, rfl, _, rfl, c, kvR ks0 ad0, rfl, .inl CA1.at_, fun a na => ?_⟩
    have ha : upd H1 a (.tup ((kvR ks0 ad0).map fun kv => kV kv.1)) a = some (.tup (ks0.map V.str)) := by rw [upd_same, List.map_map]; rfl
    have e2 : Same H1 (upd H1 a (.tup ((kvR ks0 ad0).map fun kv => kV kv.1))) := same_new na
    show tNil _ (upd H1 a (.tup ((kvR ks0 ad0).map fun kv => kV kv.1))) _
    generalize upd H1 a (.tup ((kvR ks0 ad0).map fun kv => kV kv.1)) = H2 at ha e2 ⊢
    have e02 := e1.trans e2
    refine ⟨j, p, a, cs, ks0, rfl, Dp.same e02, SC.le, SC.ok, CO.fo.nm, stOf0 ha, fun H3 e3 => ?_⟩
    have e03 := e02.trans e3
    have CA3 := CA.same e03
    -- now
    refine ⟨_, rfl, c, kvR ks0 ad0, ks0, rfl, .inl CA3.at_, by rw [List.map_map]; rfl, by omega, fun ks sp pm so ns => ?_⟩
    have e4 : Same H3 (upd H3 sp (.lst (ks.map V.str))) := same_new ns
    have hsp : upd H3 sp (.lst (ks.map V.str)) sp = some (.lst (ks.map V.str)) := upd_same
    have knd : ks.Nodup := pm.nodup_iff.mpr CO.fo.nd
    have kle : ks.length ≤ 20 := by rw [pm.length_eq]; exact CO.fo.hi
    refine ⟨sp, rfl, ⟨_, sqOf0 hsp⟩, fun d nd => ?_⟩
    have e04 := e03.trans e4
    have fd : H d = none := e04.free nd
    generalize upd H3 sp (.lst (ks.map V.str)) = H4 at e04 hsp nd ⊢
    have CA4 := CA.same e04
    refine any_it (walk_list (xs := ks.map V.str)) (fun i H' => H' d = some (.dK (kvR (ks.take i) ad0)) ∧ Same H4 H') ⟨upd_same, same_new nd⟩ (fun i H' _ h => sqOf0 (h.2 _ _ hsp)) ?_ ?_
    · rintro i x H5 H6 hi ⟨hD, e5⟩ ⟨rfl, hx⟩
      obtain ⟨y, hy, rfl⟩ := strs_at hx
      have my : y ∈ ks0 := pm.mem_iff.mp (List.mem_of_getElem? hy)
      have g : DGet H6 c (.str y) (some (.ref (ad0 y))) := kv_val (ad := ad0) my ▸ DGet.k (k := .inr y) (CA4.same e5).at_
      refine ⟨rfl, _, rfl, _, rfl, _, rfl, c, _, rfl, g, ?_⟩
      refine ⟨_, .inr y, rfl, hD, by rw [List.length_map]; exact small1000 (by rw [List.length_take]; omega), ?_, same_up e5 nd⟩
      show upd H6 d (.dK (putK (kvS (ks.take i) fun y => .ref (ad0 y)) (.inr y) (.ref (ad0 y)))) d = _
      rw [upd_same, kvS_add (g := fun y => V.ref (ad0 y)) (nin_take knd hy), List.take_add_one, hy]
      rfl
    rintro H5 ⟨hD, e5⟩
    rw [List.length_map, List.take_of_length_le (Nat.le_refl _)] at hD
    have e05 := e04.trans e5
    have CA5 := CA.same e05
    have nc : ∀ y ∈ ks, ad0 y ≠ d := fun y hy z => by have := CA4.files y (pm.mem_iff.mp hy); rw [z, nd] at this; cases this
    -- copy by copy
    refine ⟨_, rfl, p, rfl, ⟨xs, same_t e05 sP⟩, ?_⟩
    refine for_tup (xs := xs) (fun i σ H' => ∃ x3 x4 x5 ad, σ = [some (.ref c), some (.ref p), some (.ref d), x3, x4, x5, none] ∧ NowAt H H' d ks ad (runF (cs.take i) FF) ∧ Same H H') ⟨none, none, none, ad0, rfl, ⟨hD, fun y hy => CA5.files y (pm.mem_iff.mp hy), nc, fd⟩, e05⟩
      (fun i σ H' _ h => by obtain ⟨_, _, _, _, _, _, h⟩ := h; exact same_t h sP) ?_ ?_
    · rintro i x σ H6 hx ⟨x3, x4, x5, ad, rfl, NA, e6⟩
      obtain ⟨dd, hd, Dd⟩ := tP.get hx
      rw [List.getElem?_map] at hd
      obtain ⟨cp, hcc, rfl⟩ : ∃ c, cs[i]? = some c ∧ cpD c = dd := by
        cases h : cs[i]? with
        | none => rw [h] at hd; cases hd
        | some c => rw [h] at hd; cases hd; exact ⟨c, rfl, rfl⟩
      have ck := SC.ok cp (List.mem_of_getElem? hcc)
      have ao := allok_runF (cs := cs.take i) AO fun c hc => SC.ok c (List.mem_of_mem_take hc)
      have oa := ao _ ck.a
      have ob := ao _ ck.b
      have ma : cp.2.1 ∈ ks := pm.mem_iff.mpr ck.a
      have mb : cp.2.2 ∈ ks := pm.mem_iff.mpr ck.b
      have la : (kvF (runF (cs.take i) FF cp.2.1)).length ≤ 1000 := by rw [List.length_map]; have := oa.len; omega
      have lb : (kvF (runF (cs.take i) FF cp.2.2)).length ≤ 1000 := by rw [List.length_map]; have := ob.len; omega
      obtain ⟨b, rfl, bj, sb⟩ := cp_inv (Dd.same e6)
      have kl : (kvR ks ad).length < sizeLine := by rw [List.length_map]; exact small1000 (by omega)
      have rn := runF_take (F := FF) hcc
      generalize runF (cs.take i) FF = R at NA oa ob la lb rn
      refine ⟨b, cpV cp, rfl, sb, rfl, _, _, rfl, _, _, rfl, _, _, rfl, rfl, ?_⟩
      -- the joined files, u behind v
      have key : ∀ {u v : Str}, u ∈ ks → v ∈ ks → FOk PT (R u) → FOk PT (R v) → (kvF (R u)).length ≤ 1000 → (kvF (R v)).length ≤ 1000 → ∀ r, H6 r = none →
          ∃ H7, H7 = upd (upd (upd H6 r (.dK [])) r (.dK (mergeK [] (kvF (R u))))) r (.dK (mergeK (mergeK [] (kvF (R u))) (kvF (R v)))) ∧ Same H6 H7 ∧ H7 r = some (.dK (kvF (jn (R u) (R v)))) := by
        intro u v hu hv ou ov lu lv r nr
        refine ⟨_, rfl, same_up (same_up (same_new nr) nr) nr, ?_⟩
        have e0 : mergeK [] (kvF (R u)) = kvF (R u) := by
          have h := kvF_merge (a := []) (b := R u) (fok_nil PT) ou.sub
          rw [jn_nil ou.nd] at h
          exact h
        rw [upd_same, e0, kvF_merge ou ov.sub]
      refine ⟨_, rfl, rfl, _, rfl, ite2 (fun k => ?_) (fun k => ?_)⟩
      · have ew : cp.1 = Str.ofString "over" := by have := of_decide_eq_true k; injection this
        refine fun r nr => ?_
        have rd : r ≠ d := (ne_of_none NA.at_ nr).symm
        have n1 : ad cp.2.2 ≠ r := ne_of_none (NA.files _ mb) nr
        have n2 : ad cp.2.1 ≠ r := ne_of_none (NA.files _ ma) nr
        have N1 := NA.same (same_new (o := .dK []) nr)
        refine ⟨_, rfl, _, rfl, d, _, rfl, kv_val (ad := ad) mb ▸ DGet.k (k := .inr cp.2.2) N1.at_, ad cp.2.2, kvF (R cp.2.2), rfl, n1, N1.files _ mb, upd_same, lb, ?_⟩
        have N2 : NowAt H (upd (upd H6 r (.dK [])) r (.dK (mergeK [] (kvF (R cp.2.2))))) d ks ad R := NA.same (same_up (same_new nr) nr)
        refine ⟨_, rfl, _, rfl, d, _, rfl, kv_val (ad := ad) ma ▸ DGet.k (k := .inr cp.2.1) N2.at_, ad cp.2.1, kvF (R cp.2.1), rfl, n2, N2.files _ ma, upd_same, la, ?_⟩
        obtain ⟨H7, e7, s7, h7⟩ := key mb ma ob oa lb la r nr
        rw [← e7]
        have N7 := NA.same s7
        refine ⟨_, rfl, _, rfl, d, _, rfl, DPut.k (k := .inr cp.2.2) N7.at_ kl, _, _, _, upA ad cp.2.2 r, rfl, ?_, same_put (e6.trans s7) NA.fd⟩
        have := N7.put mb h7 rd
        rw [rn]
        unfold stepF
        rw [if_pos ew]
        exact this
      · have ew : ¬ cp.1 = Str.ofString "over" := fun z => k (decide_eq_true (congrArg V.str z))
        refine fun r nr => ?_
        have rd : r ≠ d := (ne_of_none NA.at_ nr).symm
        have n1 : ad cp.2.2 ≠ r := ne_of_none (NA.files _ mb) nr
        have n2 : ad cp.2.1 ≠ r := ne_of_none (NA.files _ ma) nr
        have N1 := NA.same (same_new (o := .dK []) nr)
        refine ⟨_, rfl, _, rfl, d, _, rfl, kv_val (ad := ad) ma ▸ DGet.k (k := .inr cp.2.1) N1.at_, ad cp.2.1, kvF (R cp.2.1), rfl, n2, N1.files _ ma, upd_same, la, ?_⟩
        have N2 : NowAt H (upd (upd H6 r (.dK [])) r (.dK (mergeK [] (kvF (R cp.2.1))))) d ks ad R := NA.same (same_up (same_new nr) nr)
        refine ⟨_, rfl, _, rfl, d, _, rfl, kv_val (ad := ad) mb ▸ DGet.k (k := .inr cp.2.2) N2.at_, ad cp.2.2, kvF (R cp.2.2), rfl, n1, N2.files _ mb, upd_same, lb, ?_⟩
        obtain ⟨H7, e7, s7, h7⟩ := key ma mb oa ob la lb r nr
        rw [← e7]
        have N7 := NA.same s7
        refine ⟨_, rfl, _, rfl, d, _, rfl, DPut.k (k := .inr cp.2.2) N7.at_ kl, _, _, _, upA ad cp.2.2 r, rfl, ?_, same_put (e6.trans s7) NA.fd⟩
        have := N7.put mb h7 rd
        rw [rn]
        unfold stepF
        rw [if_neg ew]
        exact this
    rintro σ H6 ⟨x3, x4, x5, ad, rfl, NA, e6⟩
    rw [List.take_of_length_le (by omega)] at NA
    have ao := allok_runF (cs := cs) AO SC.ok
    generalize runF cs FF = R at NA ao q ⊢
    -- with ascending paths
    refine ⟨d, _, NA.at_, trivial, fun od => ?_⟩
    have fz : upd H6 d (.frz od (.dK (kvR ks ad))) d = some (.frz od (.dK (kvR ks ad))) := upd_same
    have fl : ∀ y ∈ ks, upd H6 d (.frz od (.dK (kvR ks ad))) (ad y) = some (.dK (kvF (R y))) := fun y hy => (upd_ne (NA.ne y hy)).trans (NA.files y hy)
    have e7 : Same H (upd H6 d (.frz od (.dK (kvR ks ad)))) := same_up e6 NA.fd
    generalize upd H6 d (.frz od (.dK (kvR ks ad))) = H7 at fz fl e7 ⊢
    refine ⟨_, rfl, d, od, rfl, .inl ⟨_, fz, fun D nD => ?_⟩⟩
    have fD : H D = none := e7.free nD
    have Dd : D ≠ d := fun z => by rw [z, fz] at nD; cases nD
    refine any_it (walk_keys (kvs := kvR ks ad)) (fun i H' => ∃ (ad2 : Str → Addr) (G : Str → Fs), H' D = some (.dK (kvR (ks.take i) ad2)) ∧ (∀ y ∈ ks.take i, H' (ad2 y) = some (.dK (kvF (G y))) ∧ IsSrt (R y) (G y) ∧ H (ad2 y) = none ∧ ad2 y ≠ D ∧ ad2 y ≠ d) ∧ Same H7 H') ⟨fun _ => 0, fun _ => [], upd_same, (fun y hy => nomatch hy), same_new nD⟩ (fun i H' _ h => by obtain ⟨_, _, _, _, h⟩ := h; exact h _ _ fz) ?_ ?_
    · rintro i x H8 H9 hi ⟨ad2, G, hD, hG, e8⟩ ⟨rfl, kk, vv, hkv, rfl⟩
      rw [List.getElem?_map] at hkv
      obtain ⟨y, hy, rfl⟩ : ∃ y, ks[i]? = some y ∧ kk = .inr y := by
        cases h : ks[i]? with
        | none => rw [h] at hkv; cases hkv
        | some y => rw [h] at hkv; cases hkv; exact ⟨y, rfl, rfl⟩
      have my := List.mem_of_getElem? hy
      have oy := ao y (pm.mem_iff.mp my)
      have g : DGet H9 d (.str y) (some (.ref (ad y))) := kv_val (ad := ad) my ▸ (.inl ⟨kvR ks ad, .inr y, .inr ⟨od, e8 _ _ fz⟩, rfl, rfl⟩ : DGet H9 d (kV (.inr y)) (valV (kvR ks ad) (.inr y)))
      refine ⟨rfl, _, rfl, _, rfl, _, rfl, d, _, rfl, g, ad y, R y, rfl, e8 _ _ (fl y my), oy.nd, by have := oy.len; omega, fun r gs H10 hs fr hr e10 => ?_⟩
      have hD10 := e10 _ _ hD
      have rD : r ≠ D := (ne_of_none hD fr).symm
      have rd : r ≠ d := (ne_of_none (e8 _ _ fz) fr).symm
      have ny := nin_take knd hy
      refine ⟨_, .inr y, rfl, hD10, by rw [List.length_map]; exact small1000 (by rw [List.length_take]; omega), upA ad2 y r, (fun z => if z = y then gs else G z), ?_, fun z hz => ?_, same_up (e8.trans e10) nD⟩
      · show upd H10 D (.dK (putK (kvR (ks.take i) ad2) (.inr y) (.ref r))) D = _
        rw [upd_same, kv_add ny, List.take_add_one, hy]
        rfl
      · have hz : z ∈ ks.take i ∨ z = y := by
          rw [List.take_add_one, hy] at hz
          rcases List.mem_append.mp hz with m | m
          · exact .inl m
          · exact .inr (by simpa using m)
        show upd H10 D _ (if z = y then r else ad2 z) = some (.dK (kvF (if z = y then gs else G z))) ∧ IsSrt (R z) (if z = y then gs else G z) ∧ H (if z = y then r else ad2 z) = none ∧ (if z = y then r else ad2 z) ≠ D ∧ (if z = y then r else ad2 z) ≠ d
        by_cases e : z = y
        · rw [if_pos e, if_pos e, upd_ne rD, e]
          exact ⟨hr, hs, (e7.trans e8).free fr, rD, rd⟩
        · obtain ⟨h1, h2, h3, h4, h5⟩ := hG z (hz.resolve_right e)
          rw [if_neg e, if_neg e, upd_ne h4]
          exact ⟨e10 _ _ h1, h2, h3, h4, h5⟩
    · rintro H8 ⟨ad2, G, hD, hG, e8⟩
      rw [List.length_map, List.take_of_length_le (Nat.le_refl _)] at hD
      rw [List.length_map, List.take_of_length_le (Nat.le_refl _)] at hG
      refine ⟨e8 _ _ fz, ?_⟩
      exact q D ks ad2 G _ pm so (fun y hy => (hG y hy).2.1) ⟨(upd_ne Dd).trans hD, fun y hy => (upd_ne (hG y hy).2.2.2.2).trans (hG y hy).1, fun y hy => (hG y hy).2.2.2.1, fD, fun y hy => (hG y hy).2.2.1⟩ (same_up (e7.trans e8) NA.fd)
end
end Cv

/-! part K08D -/
set_option maxRecDepth 100000
set_option maxHeartbeats 4000000
namespace Cv
open PySem PySem.Spec PyProof.Rows L2
section
variable {P : Program} {w : World} {K : PySem.W.Frag} {mg : Str → Option Value} {base : Heap}
theorem scN : FnScope ["jar", "many", "left", "found", "turn", "size", "front", "step"] ["jar", "many"] (defScope sNames) := ⟨rfl, rfl, rfl, by decide +kernel, rfl, by decide +kernel, by decide +kernel⟩
/-- between two turns -/
structure NmSt (H0 H : Hp) (j L Fd : Addr) (n i : Nat) (cs : List Nat) (fs : List Str) (l : List V) : Prop where
  ej : Eff j H0 H
  hj : H j = some (.lst l)
  jl : JarL l (n + 9 * i)
  hL : H L = some (.lst (cs.map fun c => V.str (sg c)))
  hF : H Fd = some (.lst (fs.map V.str))
  nL : L ≠ j
  nF : Fd ≠ j
  nLF : L ≠ Fd
  fL : H0 L = none
  fF : H0 Fd = none
  cn : cs.Nodup
  cb : ∀ c ∈ cs, 97 ≤ c ∧ c ≤ 116
  cl : cs.length + i = 20
  fl : fs.length = i
  fn : fs.Nodup
  fb : ∀ y ∈ fs, IsNm y ∧ ∃ c, y.cps.toList.getLast? = some c ∧ c ∉ cs ∧ c ≤ 116
theorem sg0 : (signs (Str.ofString "abcdefghijklmnopqrst")) = ((List.range 20).map fun i => 97 + i).map sg := by decide +kernel
theorem ok_names {f : Addr} {fd : FuncData} (F : Fun K "_law_names" "_law_names" sNames f fd) (B : Bl mg) (DD : Has P w K mg base CX0 1 "_law_dip" ["jar", "many"] spDip) :
    FnOk P w K mg base CX0 2 f fd ["jar", "many"] spNames := by
  refine F.ok scN (fun vs H Q E h => ?_) (fun cdv A outer s H vs Q E hr h => ?_)
  · obtain ⟨j, l, m, n, rfl, _⟩ := h
    rfl
  · obtain ⟨j, l, m, n, rfl, hj, jl, hn, hm, hm2, q⟩ := h
    refine ⟨_, pss_cons (ps_par (i := 2) (j := 3) rfl scN.nd rfl rfl (by decide) rfl rfl (pa_cons (pe_callTy (call_list_str rfl) (by rfl) B.list (by decide +kernel) (pa_cons pe_str pa_nil)) (pa_cons (pe_lst pa_nil) pa_nil)) rfl)
      (pss_cons (ps_for PassesOwn.never rfl (pi_range1 (by rfl) B.range (pa_cons (pv 1) pa_nil)) (pg_name (i := 4) scN.nd rfl (.inl rfl))
        (pss_cons (ps_set (i := 5) scN.nd rfl (.inl rfl) (pe_ix ix_list (pe_lst (pa_cons pe_int (pa_cons pe_int (pa_cons pe_int (pa_cons pe_int pa_nil))))) (pe_has DD hr pass0 (pa_cons (pv 0) (pa_cons pe_int pa_nil))) (fun _ _ => rfl)))
        (pss_cons (ps_set (i := 6) scN.nd rfl (.inl rfl) (pe_join pe_str (pe_lc (own := [("step", 7)]) (tt := tYes) rfl scN.nd (pi_range1 (by rfl) B.range (pa_cons (pv 5) pa_nil)) (blkOk_by (N := ["jar", "many", "left", "found", "turn", "size", "front", "step"]) (sc := defScope sNames) (by decide +kernel))
            (fun _ _ _ _ _ => pg_name (i := 7) scN.nd rfl (.inl rfl)) (fun _ _ _ _ _ => pts_nil) (fun _ _ _ _ _ => pe_ix ix_str pe_str (pe_has DD hr pass0 (pa_cons (pv 0) (pa_cons pe_int pa_nil))) (fun _ _ => rfl)))))
        (pss_one (ps_expr (pe_bm PySem.F.plainAttrs_list PySem.F.slot_list_append PySem.F.type_list_append mt_append (pv 3)
          (pa_cons (pe_op op_add_str (pv 6) (pe_bm PySem.F.plainAttrs_list PySem.F.slot_list_pop PySem.F.type_list_pop mt_popAt (pv 2)
            (pa_cons (pe_has DD hr pass0 (pa_cons (pv 0) (pa_cons (pe_callB call_len_seq (by rfl) B.len PySem.boot_len (pa_cons (pv 2) pa_nil)) pa_nil))) pa_nil))) pa_nil)))))))
      (pss_one (ps_ret (pe_callTy call_tuple_of (by rfl) B.tuple (by decide +kernel) (pa_cons (pv 3) pa_nil))))), ?_⟩
    -- left, found
    refine ⟨_, rfl, by decide +kernel, fun L nL => ⟨Nat.zero_le _, fun Fd nF => ⟨_, _, rfl, ?_⟩⟩⟩
    have nL0 : L ≠ j := (ne_of_none hj nL).symm
    have hj1 : upd H L (.lst ((signs (Str.ofString "abcdefghijklmnopqrst")).map V.str)) j = some (.lst l) := (upd_ne nL0.symm).trans hj
    have nF0 : Fd ≠ j := (ne_of_none hj1 nF).symm
    have nLF : L ≠ Fd := ne_of_none upd_same nF
    have fF : H Fd = none := (upd_ne (H := H) nLF.symm).symm.trans nF
    refine ⟨_, rfl, m, rfl, by omega, by omega, ?_⟩
    refine for_range (lo := 0) (n := m.toNat) (fun i σ H' => ∃ x4 x5 x6 x7 cs fs l', σ = [some (.ref j), some (.int m), some (.ref L), some (.ref Fd), x4, x5, x6, x7] ∧ NmSt H H' j L Fd n i cs fs l') ?_ ?_ ?_
    · refine ⟨none, none, none, none, (List.range 20).map fun i => 97 + i, [], l, rfl, ?_⟩
      refine ⟨((Eff.refl j H).new nL).new fF, (upd_ne nF0.symm).trans hj1, by simpa using jl, ?_, upd_same, nL0, nF0, nLF, nL, fF, by decide, by decide, by decide, rfl, List.nodup_nil, fun y hy => nomatch hy⟩
      rw [upd_ne nLF, upd_same, sg0, List.map_map]
      rfl
    · rintro i σ H1 hi ⟨x4, x5, x6, x7, cs, fs, l1, rfl, S⟩
      have him : (i : Int) < 20 := by omega
      -- size
      refine ⟨by decide, fun p0 np0 => ?_⟩
      have p0j : p0 ≠ j := (ne_of_none S.hj np0).symm
      refine ⟨_, rfl, j, l1, 4, n + 9 * i, rfl, (upd_ne p0j.symm).trans S.hj, S.jl, by omega, by decide, by decide, fun r l2 r0 r1 jl2 => ?_⟩
      obtain ⟨sz, hsz, sz0, sz1⟩ := pick4 r0 r1
      refine ⟨p0, _, r, _, rfl, rfl, sqOf ((upd_ne p0j).trans upd_same), hsz, ?_⟩
      generalize hH2 : upd (upd H1 p0 (.lst [V.int 0, V.int 0, V.int 1, V.int 7])) j (.lst l2) = H2
      have e2 : Eff j H1 H2 := by rw [← hH2]; exact ((Eff.refl j H1).new np0).atj
      have hj2 : H2 j = some (.lst l2) := by rw [← hH2]; exact upd_same
      -- front
      refine ⟨⟨_, rfl⟩, _, rfl, sz, rfl, by omega, by omega, fun D nD => ?_⟩
      have nDj : D ≠ j := (ne_of_none hj2 nD).symm
      refine lc_it walk_range (fun i' H' => ∃ (ds : List Nat) (l' : List V), H' D = some (.lst (ds.map fun c => V.str (sg c))) ∧ ds.length = i' ∧ (∀ c ∈ ds, 97 ≤ c ∧ c ≤ 122) ∧ H' j = some (.lst l') ∧ JarL l' (n + 9 * i + 1 + i') ∧ Eff j H2 H')
        ⟨[], l2, upd_same, rfl, (fun _ q => nomatch q), (upd_ne nDj.symm).trans hj2, jl2, (Eff.refl j H2).new nD⟩ (fun _ _ _ _ => trivial) ?_ ?_
      · rintro i' x H3 H4 hi' ⟨ds, l3, hD, dl, db, hj3, jl3, e3⟩ ⟨rfl, rfl⟩
        refine ⟨rfl, ?_⟩
        refine ⟨_, rfl, j, l3, 3, n + 9 * i + 1 + i', rfl, hj3, jl3, by omega, by decide, by decide, fun r2 l4 r20 r21 jl4 => ?_⟩
        obtain ⟨c, hc, c0, c1⟩ := pick3 r20 r21
        refine ⟨_, r2, c, rfl, rfl, by decide +kernel, hc, ds.map (fun c => V.str (sg c)), (upd_ne nDj).trans hD, ?_, ?_⟩
        · rw [List.length_map, dl]
          exact small1000 (by omega)
        · refine ⟨ds ++ [c], l4, ?_, by simp [dl], ?_, (upd_ne nDj.symm).trans upd_same, jl4, ?_⟩
          · rw [upd_same, List.map_append]
            rfl
          · intro d hd
            rcases List.mem_append.mp hd with h | h
            · exact db d h
            · have : d = c := by simpa using h
              subst this
              exact ⟨c0, c1⟩
          · exact (e3.atj).new nD
      · rintro H3 ⟨ds, l3, hD, dl, db, hj3, jl3, e3⟩
        have e13 := e2.trans e3
        have hL3 := e13 L _ S.nL S.hL
        have hF3 := e13 Fd _ S.nF S.hF
        refine ⟨_, D, ds.map sg, rfl, rfl, .inl (sqOf (by rw [hD, List.map_map]; rfl)), ?_, ?_⟩
        · have : ((ds.map sg).map (·.length)).sum = ds.length := by
            rw [List.map_map]
            have : ∀ l : List Nat, (l.map ((·.length) ∘ sg)).sum = l.length := fun l => by
              induction l with
              | nil => rfl
              | cons a l ih => rw [List.map_cons, List.sum_cons, ih, List.length_cons]; show 1 + _ = _; omega
            exact this ds
          rw [this, show (Str.ofString "").length = 0 by decide +kernel]
          omega
        · obtain ⟨gl, gc⟩ := glue_ok db
          have gl7 : (Txt.join (Str.ofString "") (ds.map sg)).length ≤ 7 := by omega
          generalize Txt.join (Str.ofString "") (ds.map sg) = fr at gl gc gl7
          -- found.append(front + left.pop(..))
          refine ⟨_, rfl, .inl ⟨rfl, _, sqOf hF3⟩, _, rfl, _, rfl, .inl ⟨rfl, _, sqOf hL3⟩, _, rfl, _, rfl, L, _, rfl, .inl (sqOf hL3), ?_⟩
          have hlc : 0 < cs.length := by have := S.cl; omega
          refine ⟨j, l3, _, n + 9 * i + 1 + sz.toNat, rfl, hj3, jl3.mono (by omega), by omega, by rw [List.length_map]; omega, by rw [List.length_map]; have := S.cl; omega, fun r3 l4 r30 r31 jl4 => ?_⟩
          rw [List.length_map] at r31
          obtain ⟨k, c, rfl, hk, _⟩ := atI_in r30 r31
          have hkl : k < cs.length := by omega
          have cl := S.cl
          refine ⟨L, _, _, k, V.str (sg c), rfl, rfl, (upd_ne S.nL).trans hL3, by omega, by omega, by rw [List.length_map]; exact seqIx_nat hkl, by rw [List.getElem?_map, hk]; rfl, ?_⟩
          rw [erase_map]
          have cm : c ∈ cs := List.mem_of_getElem? hk
          obtain ⟨nm, nl⟩ := nm_of gl7 gc ⟨(S.cb c cm).1, by have := (S.cb c cm).2; omega⟩
          refine ⟨fr, sg c, rfl, rfl, ?_, Fd, fs.map V.str, _, rfl, rfl, ?_, ?_, ?_⟩
          · show fr.length + 1 ≤ sizeLine
            exact Nat.le_trans (show fr.length + 1 ≤ 64 by omega) (by decide)
          · rw [upd_ne S.nLF.symm, upd_ne S.nF]
            exact hF3
          · rw [List.length_map, S.fl]
            exact small1000 (by omega)
          · refine ⟨_, _, _, _, cs.eraseIdx k, fs ++ [fr ++ sg c], l4, rfl, ?_⟩
            refine ⟨?_, ?_, jl4.mono (by omega), ?_, ?_, S.nL, S.nF, S.nLF, S.fL, S.fF, S.cn.sublist (List.eraseIdx_sublist _ _), fun d hd => S.cb d (List.mem_of_mem_eraseIdx hd), ?_, ?_, ?_, ?_⟩
            · exact (((S.ej.trans e13).atj).new S.fL).new S.fF
            · rw [upd_ne S.nF.symm, upd_ne S.nL.symm, upd_same]
            · rw [upd_ne S.nLF, upd_same]
            · rw [upd_same, List.map_append]
              rfl
            · have := erase_len cs k hkl
              omega
            · rw [List.length_append, S.fl]
              rfl
            · rw [List.nodup_append]
              refine ⟨S.fn, by simp, fun a ha b hb e => ?_⟩
              have hb' : b = fr ++ sg c := by simpa using hb
              obtain ⟨_, d, hd, hn, _⟩ := S.fb a ha
              rw [e, hb', nl] at hd
              have : c = d := Option.some.inj hd
              exact hn (this ▸ cm)
            · intro y hy
              rcases List.mem_append.mp hy with h | h
              · obtain ⟨h1, d, hd, hn, h9⟩ := S.fb y h
                exact ⟨h1, d, hd, fun z => hn (List.mem_of_mem_eraseIdx z), h9⟩
              · have : y = fr ++ sg c := by simpa using h
                subst this
                exact ⟨nm, c, nl, erase_out cs k c S.cn hk, (S.cb c cm).2⟩
    · rintro σ H1 ⟨x4, x5, x6, x7, cs, fs, l1, rfl, S⟩
      refine ⟨_, rfl, Fd, _, rfl, .inl ⟨sqOf S.hF, fun p np => ?_⟩⟩
      have pj : p ≠ j := (ne_of_none S.hj np).symm
      refine q p fs l1 _ ⟨by have := S.fl; omega, S.fn, (fun y hy => (S.fb y hy).1), fun y hy => by obtain ⟨_, c, h1, _, h2⟩ := S.fb y hy; exact ⟨c, h1, h2⟩⟩ upd_same ((upd_ne pj.symm).trans S.hj) (S.jl.mono (by omega)) ?_
      exact S.ej.new (S.ej.free pj np)
end
end Cv


/-! part K08I -/
set_option maxRecDepth 100000
set_option maxHeartbeats 4000000
namespace Cv
open PySem PySem.Spec PyProof.Rows L2
theorem glue_all {Pc : Nat → Prop} {cs : List Nat} (hc : ∀ c ∈ cs, Pc c) : (Txt.join (Str.ofString "") (cs.map sg)).length = cs.length ∧ ∀ c ∈ (Txt.join (Str.ofString "") (cs.map sg)).cps.toList, Pc c := by
  constructor
  · rw [PySem.W.KT.join_ones]
    · rw [List.length_map]
    · intro a ha
      obtain ⟨c, _, rfl⟩ := List.mem_map.mp ha
      rfl
  · intro c h
    have e : Txt.join (Str.ofString "") (cs.map sg) = Str.join (Str.ofString "") (cs.map sg) := by
      have := PyProof.Rows.join_plain_closes (Str.ofString "") (cs.map sg)
      simpa using this
    rw [e, PyProof.Rows.mem_join] at h
    rcases h with ⟨t, ht, hct⟩ | ⟨_, hct⟩
    · obtain ⟨d, hd, rfl⟩ := List.mem_map.mp ht
      have : c = d := by simpa [sg] using hct
      subst this
      exact hc c hd
    · rw [show (Str.ofString "").cps.toList = [] by decide +kernel] at hct
      exact nomatch hct
theorem ptC : (Str.ofString "ab/.09z").cps.toList = [97, 98, 47, 46, 48, 57, 122] := by decide +kernel
theorem ptIn : ∀ c ∈ [97, 98, 47, 46, 48, 57, 122], c ∈ signsP.cps.toList := by decide +kernel
theorem pick7 {r : Int} (h0 : 0 ≤ r) (h : r < 7) : ∃ c : Nat, atI (Str.ofString "ab/.09z").cps.toList r = some c ∧ c ∈ signsP.cps.toList := by
  rw [ptC]
  obtain ⟨m, c, rfl, hc, ha⟩ := atI_in (xs := [97, 98, 47, 46, 48, 57, 122]) h0 h
  exact ⟨c, ha, ptIn c (List.mem_of_getElem? hc)⟩
theorem pickS {a r : Int} (a0 : 0 ≤ a) (a1 : a < 3) (h0 : 0 ≤ r) (h : r < 3) : ∃ s : Int, atI [V.int 1, V.int (1 + a), V.int 20] r = some (.int s) ∧ 1 ≤ s ∧ s ≤ 20 := by
  have h4 : r = 0 ∨ r = 1 ∨ r = 2 := by omega
  rcases h4 with rfl | rfl | rfl
  · exact ⟨1, rfl, by decide, by decide⟩
  · exact ⟨1 + a, rfl, by omega, by omega⟩
  · exact ⟨20, rfl, by decide, by decide⟩
def spLP : Sp := fun vs H Q _ => ∃ (j : Addr) (l : List V) (n : Nat), vs = [.ref j] ∧ H j = some (.lst l) ∧ JarL l n ∧ n ≤ 10 ^ 8 ∧
  ∀ (x : Str) (l' : List V) (H' : Hp), IsPt x → H' j = some (.lst l') → JarL l' (n + 22) → Eff j H H' → Q (.str x) H'
section
variable {P : Program} {w : World} {K : PySem.W.Frag} {mg : Str → Option Value} {base : Heap}
theorem scLp : FnScope ["jar", "size", "step"] ["jar"] (defScope sLPath) := ⟨rfl, rfl, rfl, by decide +kernel, rfl, by decide +kernel, by decide +kernel⟩
theorem ok_lpath {f : Addr} {fd : FuncData} (F : Fun K "_law_path" "_law_path" sLPath f fd) (B : Bl mg) (DD : Has P w K mg base CX0 1 "_law_dip" ["jar", "many"] spDip) :
    FnOk P w K mg base CX0 2 f fd ["jar"] spLP := by
  refine F.ok scLp (fun vs H Q E h => ?_) (fun cdv A outer s H vs Q E hr h => ?_)
  · obtain ⟨j, l, n, rfl, _⟩ := h
    rfl
  · obtain ⟨j, l, n, rfl, hj, jl, hn, q⟩ := h
    refine ⟨_, pss_cons (ps_set (i := 1) scLp.nd rfl (.inl rfl) (pe_ix ix_list (pe_lst (pa_cons pe_int (pa_cons (pe_op op_add pe_int (pe_has DD hr pass0 (pa_cons (pv 0) (pa_cons pe_int pa_nil)))) (pa_cons pe_int pa_nil)))) (pe_has DD hr pass0 (pa_cons (pv 0) (pa_cons pe_int pa_nil))) (fun _ _ => rfl)))
      (pss_one (ps_ret (pe_join pe_str (pe_lc (own := [("step", 2)]) (tt := tYes) rfl scLp.nd (pi_range1 (by rfl) B.range (pa_cons (pv 1) pa_nil)) (blkOk_by (N := ["jar", "size", "step"]) (sc := defScope sLPath) (by decide +kernel))
            (fun _ _ _ _ _ => pg_name (i := 2) scLp.nd rfl (.inl rfl)) (fun _ _ _ _ _ => pts_nil) (fun _ _ _ _ _ => pe_ix ix_str pe_str (pe_has DD hr pass0 (pa_cons (pv 0) (pa_cons pe_int pa_nil))) (fun _ _ => rfl)))))), ?_⟩
    refine ⟨_, rfl, j, l, 3, n, rfl, hj, jl, by omega, by decide, by decide, fun a l1 a0 a1 jl1 => ⟨1, a, rfl, rfl, by show 3 ≤ sizeLine; decide, fun p0 np0 => ?_⟩⟩
    have hj1 : upd H j (.lst l1) j = some (.lst l1) := upd_same
    have e1 : Eff j H (upd H j (.lst l1)) := (Eff.refl j H).atj
    generalize upd H j (.lst l1) = H1 at hj1 e1 np0 ⊢
    have p0j : p0 ≠ j := (ne_of_none hj1 np0).symm
    refine ⟨_, rfl, j, l1, 3, n + 1, rfl, (upd_ne p0j.symm).trans hj1, jl1, by omega, by decide, by decide, fun r l2 r0 r1 jl2 => ?_⟩
    obtain ⟨sz, hsz, sz0, sz1⟩ := pickS a0 a1 r0 r1
    refine ⟨p0, _, r, _, rfl, rfl, sqOf ((upd_ne p0j).trans upd_same), hsz, ?_⟩
    generalize hH2 : upd (upd H1 p0 (.lst [V.int 1, V.int (1 + a), V.int 20])) j (.lst l2) = H2
    have e2 : Eff j H H2 := by rw [← hH2]; exact e1.trans (((Eff.refl j H1).new np0).atj)
    have hj2 : H2 j = some (.lst l2) := by rw [← hH2]; exact upd_same
    refine ⟨⟨_, rfl⟩, _, rfl, sz, rfl, by omega, by omega, fun D nD => ?_⟩
    have nDj : D ≠ j := (ne_of_none hj2 nD).symm
    refine lc_it walk_range (fun i' H' => ∃ (ds : List Nat) (l' : List V), H' D = some (.lst (ds.map fun c => V.str (sg c))) ∧ ds.length = i' ∧ (∀ c ∈ ds, c ∈ signsP.cps.toList) ∧ H' j = some (.lst l') ∧ JarL l' (n + 2 + i') ∧ Eff j H2 H')
      ⟨[], l2, upd_same, rfl, (fun _ q => nomatch q), (upd_ne nDj.symm).trans hj2, jl2, (Eff.refl j H2).new nD⟩ (fun _ _ _ _ => trivial) ?_ ?_
    · rintro i' x H3 H4 hi' ⟨ds, l3, hD, dl, db, hj3, jl3, e3⟩ ⟨rfl, rfl⟩
      refine ⟨rfl, ?_⟩
      refine ⟨_, rfl, j, l3, 7, n + 2 + i', rfl, hj3, jl3, by omega, by decide, by decide, fun r2 l4 r20 r21 jl4 => ?_⟩
      obtain ⟨c, hc, c0⟩ := pick7 r20 r21
      refine ⟨_, r2, c, rfl, rfl, by decide +kernel, hc, ds.map (fun c => V.str (sg c)), (upd_ne nDj).trans hD, ?_, ?_⟩
      · rw [List.length_map, dl]
        exact small1000 (by omega)
      · refine ⟨ds ++ [c], l4, ?_, by simp [dl], ?_, (upd_ne nDj.symm).trans upd_same, jl4, ?_⟩
        · rw [upd_same, List.map_append]
          rfl
        · intro d hd
          rcases List.mem_append.mp hd with h | h
          · exact db d h
          · rw [List.mem_singleton.mp h]
            exact c0
        · exact (e3.atj).new nD
    · rintro H3 ⟨ds, l3, hD, dl, db, hj3, jl3, e3⟩
      refine ⟨_, D, ds.map sg, rfl, rfl, .inl (sqOf (by rw [hD, List.map_map]; rfl)), ?_, ?_⟩
      · have : ((ds.map sg).map (·.length)).sum = ds.length := by
          rw [List.map_map]
          have : ∀ l : List Nat, (l.map ((·.length) ∘ sg)).sum = l.length := fun l => by
            induction l with
            | nil => rfl
            | cons a l ih => rw [List.map_cons, List.sum_cons, ih, List.length_cons]; show 1 + _ = _; omega
          exact this ds
        rw [this, show (Str.ofString "").length = 0 by decide +kernel]
        omega
      · obtain ⟨gl, gc⟩ := glue_all db
        exact q _ l3 H3 ⟨by omega, by omega, gc⟩ hj3 (jl3.mono (by omega)) (e2.trans e3)
end
end Cv

/-! part K08V -/
set_option maxRecDepth 100000
set_option maxHeartbeats 4000000
namespace Cv
open PySem PySem.Spec PyProof.Rows L2
theorem np_in {σ : L2.St} {H : Hp} {k : Option Int → Hp → Prop} (h : k none H) : tNoPart σ H k := h
theorem cutV_nat (xs : List V) (i : Nat) : cutV xs none (some (i : Int)) = xs.take i := by
  unfold cutV
  rw [HT.sIx_none, HT.sIx_nat, List.drop_zero, Nat.sub_zero]
  rcases Nat.le_total i xs.length with h | h
  · rw [Nat.min_eq_left h]
  · rw [Nat.min_eq_right h, List.take_of_length_le (Nat.le_refl _), List.take_of_length_le h]
/-- a text that the law writes -/
def TxS (t : Str) : Prop := t.length ≤ 28 ∧ ∀ c ∈ t.cps.toList, c < 1000
theorem pt_ch {x : Str} (h : IsPt x) : ∀ c ∈ x.cps.toList, c < 1000 := fun c hc => by
  have key : ∀ c ∈ signsP.cps.toList, c < 1000 := by decide +kernel
  exact key c (h.2.2 c hc)
theorem nm_ch {x : Str} (h : IsNm x) : ∀ c ∈ x.cps.toList, c < 1000 := fun c hc => by have := h.2.2 c hc; omega
theorem txt_in {r : Int} {y x : Str} (hy : IsNm y) (hx : IsPt x) (h0 : 0 ≤ r) (h : r < 5) : ∃ t, atI [V.str (Str.ofString ""), V.str (Str.ofString "x"), V.str y, V.str (Str.ofString "A b\n~"), V.str (y ++ x)] r = some (.str t) ∧ TxS t := by
  have h4 : r = 0 ∨ r = 1 ∨ r = 2 ∨ r = 3 ∨ r = 4 := by omega
  rcases h4 with rfl | rfl | rfl | rfl | rfl
  · exact ⟨_, rfl, by decide +kernel, by decide +kernel⟩
  · exact ⟨_, rfl, by decide +kernel, by decide +kernel⟩
  · exact ⟨_, rfl, Nat.le_trans hy.2.1 (by decide), nm_ch hy⟩
  · exact ⟨_, rfl, by decide +kernel, by decide +kernel⟩
  · refine ⟨_, rfl, ?_, fun c hc => ?_⟩
    · rw [strLen_append]
      have := hy.2.1
      have := hx.2.1
      omega
    · rw [Str.cps_append, Array.toList_append] at hc
      rcases List.mem_append.mp hc with m | m
      · exact nm_ch hy c m
      · exact pt_ch hx c m
theorem setF_tx {Pr : Str → Prop} {k v : Str} : ∀ {fs : Fs}, (∀ p ∈ fs, Pr p.2) → Pr v → ∀ p ∈ setF fs k v, Pr p.2
  | [], _, hv, p, hp => by
    rw [List.mem_singleton.mp hp]
    exact hv
  | q :: r, h, hv, p, hp => by
    have hp' : p ∈ (if q.1 = k then (q.1, v) :: r else q :: setF r k v) := hp
    by_cases e : q.1 = k
    · rw [if_pos e] at hp'
      rcases List.mem_cons.mp hp' with m | m
      · rw [m]; exact hv
      · exact h p (List.mem_cons_of_mem _ m)
    · rw [if_neg e] at hp'
      rcases List.mem_cons.mp hp' with m | m
      · rw [m]; exact h q List.mem_cons_self
      · exact setF_tx (fs := r) (fun p hp => h p (List.mem_cons_of_mem _ hp)) hv p m
structure LcSt (H0 H : Hp) (j P c : Addr) (n i : Nat) (PT ys : List Str) (ad : Str → Addr) (F : Str → Fs) (l : List V) : Prop where
  ej : Eff j H0 H
  hj : H j = some (.lst l)
  jl : JarL l (n + 902 + 81 * i)
  hP : H P = some (.lst (PT.map V.str))
  hc : H c = some (.dK (kvR (ys.take i) ad))
  fl : ∀ y ∈ ys.take i, H (ad y) = some (.dK (kvF (F y)))
  ne : ∀ y ∈ ys.take i, ad y ≠ c ∧ H0 (ad y) = none
  dj : ∀ y ∈ ys.take i, ∀ z ∈ ys.take i, ad y = ad z → y = z
  ok : ∀ y ∈ ys.take i, FOk PT (F y) ∧ ∀ p ∈ F y, TxS p.2
def spLC (K : PySem.W.Frag) : Sp := fun vs H Q _ => ∃ (j a : Addr) (l : List V) (mo : Int) (n : Nat) (ys : List Str), vs = [.ref j, .ref a, .int mo] ∧ H j = some (.lst l) ∧ JarL l n ∧ n ≤ 10 ^ 7 ∧ SqT K H a (ys.map V.str) ∧ a ≠ j ∧ Fold ys ∧ 1 ≤ mo ∧ mo ≤ 40 ∧
  ∀ (c : Addr) (PT : List Str) (ad : Str → Addr) (F : Str → Fs) (l' : List V) (H' : Hp), PT.length ≤ 40 → (∀ p ∈ PT, IsPt p) → AllOk PT ys F → (∀ y ∈ ys, ∀ p ∈ F y, TxS p.2) → ConAt H' c ys ad F → (∀ y ∈ ys, ∀ z ∈ ys, ad y = ad z → y = z) → H c = none → (∀ y ∈ ys, H (ad y) = none) →
    H' j = some (.lst l') → JarL l' (n + 3000) → Eff j H H' → Q (.ref c) H'
section
variable {P : Program} {w : World} {K : PySem.W.Frag} {mg : Str → Option Value} {base : Heap}
abbrev NLc : List Str := ["jar", "names_here", "most", "step", "paths", "found", "one", "files", "path_here"]
theorem scLc : FnScope NLc ["jar", "names_here", "most"] (defScope sLCont) := ⟨rfl, rfl, rfl, by decide +kernel, rfl, by decide +kernel, by decide +kernel⟩
theorem ok_lcont {f : Addr} {fd : FuncData} (F : Fun K "_law_contents" "_law_contents" sLCont f fd) (B : Bl mg) (DD : Has P w K mg base CX0 1 "_law_dip" ["jar", "many"] spDip) (DP : Has P w K mg base CX0 2 "_law_path" ["jar"] spLP) :
    FnOk P w K mg base CX0 3 f fd ["jar", "names_here", "most"] (spLC K) := by
  refine F.ok scLc (fun vs H Q E h => ?_) (fun cdv A outer s H vs Q E hr h => ?_)
  · obtain ⟨j, a, l, mo, n, ys, rfl, _⟩ := h
    rfl
  · obtain ⟨j, a, l, mo, n, ys, rfl, hj, jl, hn, ha, aj, FO, m1, m40, q⟩ := h
    refine ⟨_, pss_cons (ps_set (i := 4) scLc.nd rfl (.inl rfl) (pe_slice sl_list (pe_sortSet rfl (by rfl) B.sorted (by rfl) B.set (pe_lc (own := [("step", 3)]) (tt := tYes) (te := tCl spLP E0 (tCons (tVar 0) tNil)) rfl scLc.nd (pi_range1 (by rfl) B.range (pa_cons (pe_op op_add pe_int (pv 2)) pa_nil)) (blkOk_by (N := NLc) (sc := defScope sLCont) (by decide +kernel))
            (fun _ _ _ _ _ => pg_name (i := 3) scLc.nd rfl (.inl rfl)) (fun _ _ _ _ _ => pts_nil) (fun _ _ _ _ _ => pe_has DP hr pass0 (pa_cons (pv 0) pa_nil)))) po_none (po_some pe_int)))
      (pss_cons (ps_set (i := 5) scLc.nd rfl (.inl rfl) pe_dnewK)
      (pss_cons (ps_for PassesOwn.never rfl (pi_tup (pv 1)) (pg_name (i := 6) scLc.nd rfl (.inl rfl))
        (pss_cons (ps_set (i := 7) scLc.nd rfl (.inl rfl) pe_dnewK)
        (pss_cons (ps_for PassesOwn.never rfl (pi_range1 (by rfl) B.range (pa_cons (pe_has DD hr pass0 (pa_cons (pv 0) (pa_cons (pe_op op_add (pv 2) pe_int) pa_nil))) pa_nil)) (pg_name (i := 3) scLc.nd rfl (.inl rfl))
          (pss_cons (ps_set (i := 8) scLc.nd rfl (.inl rfl) (pe_ix ix_list (pv 4) (pe_has DD hr pass0 (pa_cons (pv 0) (pa_cons (pe_callB call_len_seq (by rfl) B.len PySem.boot_len (pa_cons (pv 4) pa_nil)) pa_nil))) (fun _ _ => rfl)))
          (pss_one (ps_dput (hu1 hr) (pv 7) (pv 8) (pe_ix ix_list (pe_lst (pa_cons pe_str (pa_cons pe_str (pa_cons (pv 6) (pa_cons pe_str (pa_cons (pe_op op_add_str (pv 6) (pv 8)) pa_nil)))))) (pe_has DD hr pass0 (pa_cons (pv 0) (pa_cons pe_int pa_nil))) (fun _ _ => rfl)) rfl))))
        (pss_one (ps_dput (hu1 hr) (pv 5) (pv 6) (pv 7) rfl)))))
      (pss_one (ps_ret (pv 5))))), ?_⟩
    have y20 := FO.hi
    -- paths
    refine ⟨_, rfl, 1, mo, rfl, rfl, 1 + mo, rfl, by omega, by omega, fun D nD => ?_⟩
    have nDj : D ≠ j := (ne_of_none hj nD).symm
    refine lc_it walk_range (fun i' H' => ∃ (xs : List Str) (l' : List V), H' D = some (.lst (xs.map V.str)) ∧ xs.length = i' ∧ (∀ x ∈ xs, IsPt x) ∧ H' j = some (.lst l') ∧ JarL l' (n + 22 * i') ∧ Eff j H H')
      ⟨[], l, upd_same, rfl, (fun _ q => nomatch q), (upd_ne nDj.symm).trans hj, jl, (Eff.refl j H).new nD⟩ (fun _ _ _ _ => trivial) ?_ ?_
    · rintro i' x H3 H4 hi' ⟨xs, l3, hD, dl, db, hj3, jl3, e3⟩ ⟨rfl, rfl⟩
      refine ⟨rfl, _, rfl, j, l3, n + 22 * i', rfl, hj3, jl3, by omega, fun x l4 H5 px hj5 jl5 e5 => ?_⟩
      have hD5 := e5 _ _ nDj hD
      refine ⟨xs.map V.str, hD5, by rw [List.length_map, dl]; exact small1000 (by omega), xs ++ [x], l4, ?_, by simp [dl], ?_, (upd_ne nDj.symm).trans hj5, jl5.mono (by omega), (e3.trans e5).new nD⟩
      · rw [upd_same, List.map_append]
        rfl
      · intro z hz
        rcases List.mem_append.mp hz with h | h
        · exact db z h
        · rw [List.mem_singleton.mp h]
          exact px
    rintro H1 ⟨xs, l1, hD, dl, db, hj1, jl1, e1⟩
    refine ⟨D, xs, rfl, .inr (sqOf0 hD), by omega, fun zs p5 nd mem le so5 n5 => ?_⟩
    have p5j : p5 ≠ j := (ne_of_none hj1 n5).symm
    have e2 : Eff j H (upd H1 p5 (.lst (zs.map V.str))) := e1.trans (Eff.same (same_new n5))
    have hj2 := (same_new (o := .lst (zs.map V.str)) n5) _ _ hj1
    have h5 : upd H1 p5 (.lst (zs.map V.str)) p5 = some (.lst (zs.map V.str)) := upd_same
    generalize upd H1 p5 (.lst (zs.map V.str)) = H2 at e2 hj2 h5 ⊢
    refine np_in ⟨_, rfl, p5, _, rfl, sqOf0 h5, fun P nP => ?_⟩
    rw [show (40 : Int) = ((40 : Nat) : Int) from rfl, cutV_nat, ← List.map_take]
    have hPT : ∀ p ∈ zs.take 40, IsPt p := fun p hp => db p ((mem p).mp (List.mem_of_mem_take hp))
    have lPT : (zs.take 40).length ≤ 40 := List.length_take_le _ _
    have nPT : 1 ≤ (zs.take 40).length := by
      have hx : 0 < xs.length := by omega
      have h1 : xs[0] ∈ zs := (mem _).mpr (List.getElem_mem hx)
      have := List.length_pos_of_mem h1
      rw [List.length_take]
      omega
    generalize zs.take 40 = PT at hPT lPT nPT ⊢
    have Pj : P ≠ j := (ne_of_none hj2 nP).symm
    have e3 : Eff j H (upd H2 P (.lst (PT.map V.str))) := e2.trans (Eff.same (same_new nP))
    have hj3 := (same_new (o := .lst (PT.map V.str)) nP) _ _ hj2
    have hP : upd H2 P (.lst (PT.map V.str)) P = some (.lst (PT.map V.str)) := upd_same
    generalize upd H2 P (.lst (PT.map V.str)) = H3 at e3 hj3 hP ⊢
    -- found
    refine fun c nc => ?_
    have cj : c ≠ j := (ne_of_none hj3 nc).symm
    have cP : c ≠ P := (ne_of_none hP nc).symm
    have fc : H c = none := e3.free cj nc
    refine ⟨_, rfl, a, rfl, ⟨ys.map V.str, eff_t (e3.trans (Eff.same (same_new nc))) aj ha⟩, ?_⟩
    refine for_tup (xs := ys.map V.str) (fun i σ H' => ∃ x3 x6 x7 x8 ad F l', σ = [some (.ref j), some (.ref a), some (.int mo), x3, some (.ref P), some (.ref c), x6, x7, x8] ∧ LcSt H H' j P c n i PT ys ad F l')
      ⟨none, none, none, none, fun _ => 0, fun _ => [], l1, rfl, e3.trans (Eff.same (same_new nc)), (upd_ne cj.symm).trans hj3, jl1.mono (by omega), (upd_ne cP.symm).trans hP, upd_same, (fun y hy => nomatch hy), (fun y hy => nomatch hy), (fun y hy => nomatch hy), fun y hy => nomatch hy⟩
      (fun i σ H' _ h => by obtain ⟨_, _, _, _, _, _, _, _, S⟩ := h; exact eff_t S.ej aj ha) ?_ ?_
    · rintro i x σ H4 hx ⟨x3, x6, x7, x8, ad, FF, l4, rfl, S⟩
      obtain ⟨y, hy, rfl⟩ := strs_at hx
      have my := List.mem_of_getElem? hy
      have ny := nin_take FO.nd hy
      have il : i < ys.length := (List.getElem?_eq_some_iff.mp hy).1
      refine fun f nf => ?_
      have fj : f ≠ j := (ne_of_none S.hj nf).symm
      have fP : f ≠ P := (ne_of_none S.hP nf).symm
      have fcc : f ≠ c := (ne_of_none S.hc nf).symm
      have f0 : H f = none := S.ej.free fj nf
      have eN : Eff j H4 (upd H4 f (.dK [])) := (Eff.refl j H4).new nf
      refine ⟨_, rfl, _, rfl, mo, 1, rfl, rfl, j, l4, mo + 1, n + 902 + 81 * i, rfl, (upd_ne fj.symm).trans S.hj, S.jl, by omega, by omega, by omega, fun T l5 T0 T1 jl5 => ⟨T, rfl, by omega, by omega, ?_⟩⟩
      have hf5 : upd (upd H4 f (.dK [])) j (.lst l5) f = some (.dK (kvF [])) := (upd_ne fj).trans upd_same
      have hj5 : upd (upd H4 f (.dK [])) j (.lst l5) j = some (.lst l5) := upd_same
      have e5 : Eff j H4 (upd (upd H4 f (.dK [])) j (.lst l5)) := eN.atj
      generalize upd (upd H4 f (.dK [])) j (.lst l5) = H5 at hf5 hj5 e5 ⊢
      refine for_range (lo := 0) (n := T.toNat) (fun k σ H' => ∃ x3 x8 fs l', σ = [some (.ref j), some (.ref a), some (.int mo), x3, some (.ref P), some (.ref c), some (.str y), some (.ref f), x8] ∧ Eff j H4 H' ∧ H' f = some (.dK (kvF fs)) ∧ FOk PT fs ∧ (∀ p ∈ fs, TxS p.2) ∧ H' j = some (.lst l') ∧ JarL l' (n + 902 + 81 * i + 1 + 2 * k))
        ⟨_, _, [], l5, rfl, e5, hf5, fok_nil PT, (fun _ h => nomatch h), hj5, jl5⟩ ?_ ?_
      · rintro k σ H6 hk ⟨x3, x8, fs, l6, rfl, e6, hf6, FK, TX, hj6, jl6⟩
        have hP6 := e6 _ _ Pj S.hP
        refine ⟨_, rfl, _, rfl, _, rfl, P, _, rfl, .inl (sqOf0 hP6), ?_⟩
        refine ⟨j, l6, _, n + 902 + 81 * i + 1 + 2 * k, rfl, hj6, jl6, by omega, by rw [List.length_map]; omega, by rw [List.length_map]; omega, fun r l7 r0 r1 jl7 => ?_⟩
        rw [List.length_map] at r1
        obtain ⟨m, x, rfl, hxm, hat⟩ := atI_in r0 r1
        have mx : x ∈ PT := List.mem_of_getElem? hxm
        have px := hPT x mx
        refine ⟨P, PT.map V.str, (m : Int), V.str x, rfl, rfl, sqOf ((upd_ne Pj).trans hP6), atI_nat (by rw [List.getElem?_map, hxm]; rfl), ?_⟩
        have hj7 : upd H6 j (.lst l7) j = some (.lst l7) := upd_same
        have e7 : Eff j H6 (upd H6 j (.lst l7)) := (Eff.refl j H6).atj
        generalize upd H6 j (.lst l7) = H7 at hj7 e7 ⊢
        have nm := FO.nm y my
        refine ⟨_, rfl, _, rfl, _, rfl, y, x, rfl, rfl, Nat.le_trans (show y.length + x.length ≤ 64 by have := nm.2.1; have := px.2.1; omega) (by decide), by show 5 ≤ sizeLine; decide, fun p np => ?_⟩
        have pj : p ≠ j := (ne_of_none hj7 np).symm
        refine ⟨_, rfl, j, l7, 5, n + 902 + 81 * i + 2 + 2 * k, rfl, (upd_ne pj.symm).trans hj7, jl7.mono (by omega), by omega, by decide, by decide, fun r2 l8 r20 r21 jl8 => ?_⟩
        obtain ⟨t, ht, tx⟩ := txt_in nm px r20 r21
        refine ⟨p, _, r2, _, rfl, rfl, sqOf ((upd_ne pj).trans upd_same), ht, ?_⟩
        generalize hH8 : upd (upd H7 p _) j (.lst l8) = H8
        have e8 : Eff j H6 H8 := by rw [← hH8]; exact e7.trans (((Eff.refl j H7).new np).atj)
        have hj8 : H8 j = some (.lst l8) := by rw [← hH8]; exact upd_same
        have hf8 := e8 _ _ fj hf6
        have lk : (kvF fs).length < sizeLine := by rw [List.length_map]; exact small1000 (by have := FK.len; omega)
        refine ⟨_, rfl, _, rfl, f, _, rfl, DPut.k (k := .inr x) hf8 lk, ?_⟩
        rw [kvF_put FK.nd]
        exact ⟨_, _, setF fs x t, l8, rfl, (e6.trans e8).new nf, upd_same, FK.set mx, setF_tx TX tx, (upd_ne fj.symm).trans hj8, jl8.mono (by omega)⟩
      · rintro σ H6 ⟨x3, x8, fs, l6, rfl, e6, hf6, FK, TX, hj6, jl6⟩
        have hc6 := e6 _ _ cj S.hc
        have lk : (kvR (ys.take i) ad).length < sizeLine := by rw [List.length_map]; exact small1000 (by rw [List.length_take]; omega)
        refine ⟨_, rfl, _, rfl, _, rfl, c, _, rfl, DPut.k (k := .inr y) hc6 lk, ?_⟩
        rw [kv_add ny]
        have tk : ys.take (i + 1) = ys.take i ++ [y] := by rw [List.take_add_one, hy]; rfl
        have cs : ∀ z ∈ ys.take (i + 1), z = y ∨ (z ≠ y ∧ z ∈ ys.take i) := fun z hz => by
          by_cases e : z = y
          · exact .inl e
          · rw [tk] at hz
            rcases List.mem_append.mp hz with m | m
            · exact .inr ⟨e, m⟩
            · exact absurd (List.mem_singleton.mp m) e
        have nf4 : ∀ z ∈ ys.take i, ad z ≠ f := fun z hz e => by
          have := S.fl z hz
          rw [e, nf] at this
          cases this
        have nj4 : ∀ z ∈ ys.take i, ad z ≠ j := fun z hz e => by
          have := S.fl z hz
          rw [e, S.hj] at this
          cases this
        refine ⟨_, _, _, _, upA ad y f, (fun z => if z = y then fs else FF z), l6, rfl, (S.ej.trans e6).new fc, (upd_ne cj.symm).trans hj6, jl6.mono (by omega), (upd_ne cP.symm).trans (e6 _ _ Pj S.hP), ?_, fun z hz => ?_, fun z hz => ?_, fun z hz u hu e => ?_, fun z hz => ?_⟩
        · rw [upd_same, tk]
        · show upd H6 c _ (if z = y then f else ad z) = some (.dK (kvF (if z = y then fs else FF z)))
          rcases cs z hz with e | ⟨e, m⟩
          · rw [if_pos e, if_pos e, upd_ne fcc]
            exact hf6
          · rw [if_neg e, if_neg e, upd_ne (S.ne z m).1]
            exact e6 _ _ (nj4 z m) (S.fl z m)
        · show (if z = y then f else ad z) ≠ c ∧ H (if z = y then f else ad z) = none
          rcases cs z hz with e | ⟨e, m⟩
          · rw [if_pos e]
            exact ⟨fcc, f0⟩
          · rw [if_neg e]
            exact S.ne z m
        · have e2 : (if z = y then f else ad z) = (if u = y then f else ad u) := e
          rcases cs z hz with h1 | ⟨h1, m1⟩ <;> rcases cs u hu with h2 | ⟨h2, m2⟩
          · rw [h1, h2]
          · rw [if_pos h1, if_neg h2] at e2
            exact absurd e2.symm (nf4 u m2)
          · rw [if_neg h1, if_pos h2] at e2
            exact absurd e2 (nf4 z m1)
          · rw [if_neg h1, if_neg h2] at e2
            exact S.dj z m1 u m2 e2
        · show FOk PT (if z = y then fs else FF z) ∧ ∀ p ∈ (if z = y then fs else FF z), TxS p.2
          rcases cs z hz with e | ⟨e, m⟩
          · rw [if_pos e]
            exact ⟨FK, TX⟩
          · rw [if_neg e]
            exact S.ok z m
    · rintro σ H4 ⟨x3, x6, x7, x8, ad, FF, l4, rfl, S⟩
      rw [List.length_map] at S
      have ti : ys.take ys.length = ys := List.take_of_length_le (Nat.le_refl _)
      refine ⟨_, rfl, ?_⟩
      have hc := S.hc
      have fl := S.fl
      have ne := S.ne
      have dj := S.dj
      have ok := S.ok
      rw [ti] at hc fl ne dj ok
      exact q c PT ad FF l4 H4 lPT hPT (fun y hy => (ok y hy).1) (fun y hy => (ok y hy).2) ⟨hc, fl, fun y hy => (ne y hy).1⟩ dj fc (fun y hy => (ne y hy).2) S.hj (S.jl.mono (by omega)) S.ej
end
end Cv

/-! part K08W -/
set_option maxRecDepth 100000
set_option maxHeartbeats 4000000
namespace Cv
open PySem PySem.Spec PyProof.Rows L2
theorem get_mem : ∀ {fs : Fs} {p : Str × Str}, (fs.map (·.1)).Nodup → p ∈ fs → getF fs p.1 = some p.2
  | q :: r, p, nd, hp => by
    obtain ⟨n1, n2⟩ := List.nodup_cons.mp nd
    show (if q.1 = p.1 then some q.2 else getF r p.1) = _
    rcases List.mem_cons.mp hp with m | m
    · rw [m, if_pos rfl]
    · rw [if_neg (fun e => n1 (by show q.1 ∈ _; rw [e]; exact List.mem_map.mpr ⟨p, m, rfl⟩)), get_mem n2 m]
def jX (w : Str) (a b : Fs) : Fs := if w = Str.ofString "over" then jn a b else jm a b
theorem jX_take {w : Str} {a b : Fs} {k : Nat} {p : Str × Str} (h : b[k]? = some p) : jX w a (b.take (k + 1)) = if w = Str.ofString "over" ∨ p.1 ∉ (jX w a (b.take k)).map (·.1) then setF (jX w a (b.take k)) p.1 p.2 else jX w a (b.take k) := by
  unfold jX
  by_cases e : w = Str.ofString "over"
  · simp only [if_pos e, if_pos (Or.inl e)]
    unfold jn
    rw [List.take_add_one, h, List.foldl_append]
    rfl
  · simp only [if_neg e]
    unfold jm
    rw [List.take_add_one, h, List.foldl_append]
    show (if p.1 ∈ _ then _ else _) = _
    by_cases z : p.1 ∈ (List.foldl (fun acc p => if p.1 ∈ acc.map (·.1) then acc else setF acc p.1 p.2) a (b.take k)).map (·.1)
    · rw [if_pos z, if_neg]
      rintro (h | h)
      · exact e h
      · exact h z
    · rw [if_neg z, if_pos (.inr z)]
theorem jX_ok {PT : List Str} {w : Str} {a b : Fs} (h : FOk PT a) (hb : ∀ k ∈ b.map (·.1), k ∈ PT) : FOk PT (jX w a b) := by
  unfold jX
  split
  · exact jn_ok h hb
  · exact jm_ok h hb
theorem stepL_X (F : Str → Fs) (c : Cp) : stepL F c = upF F c.2.2 (jX c.1 (F c.2.2) (F c.2.1)) := rfl
structure CpR (H1 H' : Hp) (D : Addr) (ys : List Str) (ts : List Addr) (ad : Str → Addr) (F : Str → Fs) : Prop where
  at_ : H' D = some (.lst (ts.map V.ref))
  pr : Paired (fun t kv => H' t = some (.tup [kV kv.1, kv.2])) ts (kvR ys ad)
  fl : ∀ y ∈ ys, H' (ad y) = some (.dK (kvF (F y)))
  dj : ∀ y ∈ ys, ∀ z ∈ ys, ad y = ad z → y = z
  fr : ∀ y ∈ ys, H1 (ad y) = none
  sm : Same H1 H'
theorem kvR_snoc {ys : List Str} {ad : Str → Addr} {y : Str} {r : Addr} (h : y ∉ ys) : kvR (ys ++ [y]) (upA ad y r) = kvR ys ad ++ [(Sum.inr y, V.ref r)] := by
  show (ys ++ [y]).map _ = _
  rw [List.map_append]
  congr 1
  · refine List.map_congr_left fun z hz => ?_
    show ((Sum.inr z : Key), V.ref (if z = y then r else ad z)) = _
    rw [if_neg (fun (e : z = y) => h (e ▸ hz))]
  · show [((Sum.inr y : Key), V.ref (if y = y then r else ad y))] = _
    rw [if_pos rfl]
theorem take_one {α : Type} {xs : List α} {i : Nat} {x : α} (h : xs[i]? = some x) : xs.take (i + 1) = xs.take i ++ [x] := by
  rw [List.take_add_one, h]
  rfl
theorem mem_snoc {α : Type} [DecidableEq α] {xs : List α} {x z : α} (h : z ∈ xs ++ [x]) : z = x ∨ (z ≠ x ∧ z ∈ xs) := by
  by_cases e : z = x
  · exact .inl e
  · rcases List.mem_append.mp h with m | m
    · exact .inr ⟨e, m⟩
    · exact absurd (List.mem_singleton.mp m) e
def spLRun (K : PySem.W.Frag) : Sp := fun vs H Q _ => ∃ (j c p : Addr) (ks0 PT : List Str) (ad0 : Str → Addr) (F : Str → Fs) (cs : List Cp), vs = [.ref c, .ref p] ∧ ConAt H c ks0 ad0 F ∧ Fold ks0 ∧ PT.length ≤ 40 ∧ AllOk PT ks0 F ∧ Scr ks0 cs ∧ Dx K H j (.ref p) (planD cs) ∧
  ∀ (d : Addr) (ks : List Str) (ad : Str → Addr) (G : Str → Fs) (H' : Hp), ks.Perm ks0 → sortedS ks = true → (∀ y ∈ ks, IsSrt (runL cs F y) (G y)) → ResAt H H' d ks ad G → Same H H' → Q (.ref d) H'
section
variable {P : Program} {w : World} {K : PySem.W.Frag} {mg : Str → Option Value} {base : Heap}
abbrev NLr : List Str := ["contents_here", "plan", "one", "now", "word", "source", "target", "files", "path_here", "found"]
theorem scLr : FnScope NLr ["contents_here", "plan"] (defScope sLRun) := ⟨rfl, rfl, rfl, by decide +kernel, rfl, by decide +kernel, by decide +kernel⟩
theorem ok_lrun {f : Addr} {fd : FuncData} (F : Fun K "_law_run" "_law_run" sLRun f fd) (B : Bl mg) : FnOk P w K mg base CX0 1 f fd ["contents_here", "plan"] (spLRun K) := by
  refine F.ok scLr (fun vs H Q E h => ?_) (fun cdv A outer s H vs Q E hr h => ?_)
  · obtain ⟨j, c, p, ks0, PT, ad0, F, cs, rfl, _⟩ := h
    rfl
  · obtain ⟨j, c, p, ks0, PT, ad0, FF, cs, rfl, CA, FO, p40, AO, SC, Dp, q⟩ := h
    refine ⟨_, pss_cons (ps_set (i := 3) scLr.nd rfl (.inr rfl) (pe_callTy (call_dictP rfl) (by rfl) B.dict (by decide +kernel) (pa_cons (pe_lock (pe_lc (own := [("one", 2)]) (tt := tYes) (te := tTup (tCons (tVar 2) (tCons (tCB (fun xs H Q => ∃ (a : Addr) (kvs : List (Key × V)), xs = [.ref a] ∧ Rd H a (.dK kvs) ∧ ∀ p, H p = none → Q (.ref p) (upd H p (.dK kvs))) (tCons (tDGet (tVar 0) (tVar 2)) tNil)) tNil))) rfl scLr.nd (pi_keys (pv 0)) (blkOk_by (N := NLr) (sc := defScope sLRun) (by decide +kernel))
          (fun _ _ _ _ _ => pg_name (i := 2) scLr.nd rfl (.inl rfl)) (fun _ _ _ _ _ => pts_nil) (fun _ _ _ _ _ => pe_tup (pa_cons (pv 2) (pa_cons (pe_callTy call_dictD (by rfl) B.dict (by decide +kernel) (pa_cons (pe_dget (hu1 hr) (pv 0) (pv 2) (fun _ _ => rfl)) pa_nil)) pa_nil))))) pa_nil)))
      (pss_cons (ps_for PassesOwn.never rfl (pi_tup (pv 1)) (pg_tup rfl (pgs_cons (pg_name (i := 4) scLr.nd rfl (.inl rfl)) (pgs_cons (pg_name (i := 5) scLr.nd rfl (.inl rfl)) (pgs_cons (pg_name (i := 6) scLr.nd rfl (.inl rfl)) pgs_nil))))
        (pss_cons (ps_set (i := 7) scLr.nd rfl (.inl rfl) (pe_dget (hu1 hr) (pv 3) (pv 6) (fun _ _ => rfl)))
        (pss_one (ps_lock (ps_for PassesOwn.never rfl (pi_keys (pe_dget (hu1 hr) (pv 3) (pv 5) (fun _ _ => rfl))) (pg_name (i := 8) scLr.nd rfl (.inl rfl))
          (pss_one (ps_if (PW.pt (pw_or (pt_cmpR op_eq (pv 4) pe_str (nomark _)) (pw_or1 (pt_cmp (pc_dnotin (hu1 hr) (pv 8) (pv 7)))))) (pss_one (ps_dput (hu1 hr) (pv 7) (pv 8) (pe_dget (hu1 hr) (pe_dget (hu1 hr) (pv 3) (pv 5) (fun _ _ => rfl)) (pv 8) (fun _ _ => rfl)) rfl)) pss_nil)))))))
      (pss_cons (ps_set (i := 9) scLr.nd rfl (.inl rfl) pe_dnewK)
      (pss_cons (ps_for PassesOwn.never rfl (pi_list (pe_callB (call_sortedD rfl) (by rfl) B.sorted (by decide +kernel) (pa_cons (pv 3) pa_nil))) (pg_name (i := 2) scLr.nd rfl (.inr rfl))
        (pss_one (ps_dput (hu1 hr) (pv 9) (pv 2) (pe_callTy (call_dictP rfl) (by rfl) B.dict (by decide +kernel) (pa_cons (pe_lc (own := [("path_here", 8)]) (tt := tYes) (te := tTup (tCons (tVar 8) (tCons (tDGet (tDGet (tVar 3) (tVar 2)) (tVar 8)) tNil))) rfl scLr.nd (pi_list (pe_callB (call_sortedD rfl) (by rfl) B.sorted (by decide +kernel) (pa_cons (pe_dget (hu1 hr) (pv 3) (pv 2) (fun _ _ => rfl)) pa_nil))) (blkOk_by (N := NLr) (sc := defScope sLRun) (by decide +kernel))
          (fun _ _ _ _ _ => pg_name (i := 8) scLr.nd rfl (.inl rfl)) (fun _ _ _ _ _ => pts_nil) (fun _ _ _ _ _ => pe_tup (pa_cons (pv 8) (pa_cons (pe_dget (hu1 hr) (pe_dget (hu1 hr) (pv 3) (pv 2) (fun _ _ => rfl)) (pv 8) (fun _ _ => rfl)) pa_nil)))) pa_nil)) rfl)))
      (pss_one (ps_ret (pv 9)))))), ?_⟩
    obtain ⟨paj, xs, sP, tP⟩ := tup_inv Dp
    have el := tP.len
    rw [List.length_map] at el
    have k20 := FO.hi
    -- now
    refine ⟨c, _, CA.at_, trivial, fun od => ?_⟩
    have fz : upd H c (.frz od (.dK (kvR ks0 ad0))) c = some (.frz od (.dK (kvR ks0 ad0))) := upd_same
    have fl : ∀ y ∈ ks0, upd H c (.frz od (.dK (kvR ks0 ad0))) (ad0 y) = some (.dK (kvF (FF y))) := fun y hy => (upd_ne (CA.ne y hy)).trans (CA.files y hy)
    have g0 : ∀ b o, b ≠ c → H b = some o → upd H c (.frz od (.dK (kvR ks0 ad0))) b = some o := fun b o n e => (upd_ne n).trans e
    have f0 : ∀ b, upd H c (.frz od (.dK (kvR ks0 ad0))) b = none → H b = none := fun b e => by
      by_cases z : b = c
      · rw [z, upd_same] at e; cases e
      · rw [upd_ne z] at e; exact e
    generalize upd H c (.frz od (.dK (kvR ks0 ad0))) = H1 at fz fl g0 f0 ⊢
    refine ⟨_, rfl, c, od, rfl, .inl ⟨_, fz, fun D nD => ?_⟩⟩
    refine lc_it (walk_keys (kvs := kvR ks0 ad0)) (fun i H' => ∃ ts ad, CpR H1 H' D (ks0.take i) ts ad FF) ⟨[], fun _ => 0, upd_same, .nil, (fun y hy => nomatch hy), (fun y hy => nomatch hy), (fun y hy => nomatch hy), same_new nD⟩ (fun i H' _ h => by obtain ⟨_, _, h⟩ := h; exact h.sm _ _ fz) ?_ ?_
    · rintro i x H2 H3 hi ⟨ts, ad, S⟩ ⟨rfl, kk, vv, hkv, rfl⟩
      rw [List.getElem?_map] at hkv
      obtain ⟨y, hy, rfl⟩ : ∃ y, ks0[i]? = some y ∧ kk = .inr y := by
        cases h : ks0[i]? with
        | none => rw [h] at hkv; cases hkv
        | some y => rw [h] at hkv; cases hkv; exact ⟨y, rfl, rfl⟩
      have my := List.mem_of_getElem? hy
      have ny := nin_take FO.nd hy
      have g : DGet H3 c (.str y) (some (.ref (ad0 y))) := kv_val (ad := ad0) my ▸ (.inl ⟨kvR ks0 ad0, .inr y, .inr ⟨od, S.sm _ _ fz⟩, rfl, rfl⟩ : DGet H3 c (kV (.inr y)) (valV (kvR ks0 ad0) (.inr y)))
      refine ⟨rfl, _, rfl, _, rfl, _, rfl, c, _, rfl, g, ad0 y, kvF (FF y), rfl, .inl (S.sm _ _ (fl y my)), fun r nr => ⟨by show 2 ≤ sizeLine; decide, fun t nt => ?_⟩⟩
      have rD : r ≠ D := (ne_of_none S.at_ nr).symm
      have r1 : H1 r = none := S.sm.free nr
      have e4 : Same H3 (upd (upd H3 r (.dK (kvF (FF y)))) t (.tup [kV (.inr y), .ref r])) := (same_new nr).trans (same_new nt)
      have hr4 : upd (upd H3 r (.dK (kvF (FF y)))) t (.tup [kV (.inr y), .ref r]) r = some (.dK (kvF (FF y))) := (same_new nt) _ _ upd_same
      have ht4 : upd (upd H3 r (.dK (kvF (FF y)))) t (.tup [kV (.inr y), .ref r]) t = some (.tup [.str y, .ref r]) := upd_same
      generalize upd (upd H3 r (.dK (kvF (FF y)))) t (.tup [kV (.inr y), .ref r]) = H4 at e4 hr4 ht4 ⊢
      have hD4 := e4 _ _ S.at_
      have lt : ts.length = (ks0.take i).length := by have := paired_len S.pr; rw [List.length_map] at this; exact this
      have up : ∀ {b : Addr} {zs : List V}, H4 b = some (.tup zs) → upd H4 D (.lst (ts.map V.ref ++ [V.ref t])) b = some (.tup zs) := fun h => (upd_ne (fun z => by rw [z, hD4] at h; cases h)).trans h
      have upD : ∀ {b : Addr} {zs : List (Key × V)}, H4 b = some (.dK zs) → upd H4 D (.lst (ts.map V.ref ++ [V.ref t])) b = some (.dK zs) := fun h => (upd_ne (fun z => by rw [z, hD4] at h; cases h)).trans h
      have nr3 : ∀ z ∈ ks0.take i, ad z ≠ r := fun z hz e => by have := S.fl z hz; rw [e, nr] at this; cases this
      refine ⟨_, hD4, by rw [List.length_map, lt, List.length_take]; exact small1000 (by omega), ts ++ [t], upA ad y r, by rw [upd_same, List.map_append]; rfl, ?_, fun z hz => ?_, fun z hz u hu e => ?_, fun z hz => ?_, same_up (S.sm.trans e4) nD⟩
      · rw [take_one hy, kvR_snoc ny]
        exact paired_snoc (Paired.mapP S.pr fun x c hx => up (e4 _ _ hx)) (up ht4)
      · rw [take_one hy] at hz
        show upd H4 D _ (if z = y then r else ad z) = _
        rcases mem_snoc hz with e | ⟨e, m⟩
        · rw [if_pos e, e]
          exact upD hr4
        · rw [if_neg e]
          exact upD (e4 _ _ (S.fl z m))
      · rw [take_one hy] at hz hu
        have e2 : (if z = y then r else ad z) = (if u = y then r else ad u) := e
        rcases mem_snoc hz with h1 | ⟨h1, m1⟩ <;> rcases mem_snoc hu with h2 | ⟨h2, m2⟩
        · rw [h1, h2]
        · rw [if_pos h1, if_neg h2] at e2
          exact absurd e2.symm (nr3 u m2)
        · rw [if_neg h1, if_pos h2] at e2
          exact absurd e2 (nr3 z m1)
        · rw [if_neg h1, if_neg h2] at e2
          exact S.dj z m1 u m2 e2
      · rw [take_one hy] at hz
        show H1 (if z = y then r else ad z) = none
        rcases mem_snoc hz with e | ⟨e, m⟩
        · rw [if_pos e]; exact r1
        · rw [if_neg e]; exact S.fr z m
    rintro H2 ⟨ts, ad, S⟩
    rw [List.length_map, List.take_of_length_le (Nat.le_refl _)] at S
    have fz2 := S.sm _ _ fz
    refine ⟨fz2, ?_⟩
    have e3 : Same H (upd H2 c (.dK (kvR ks0 ad0))) := fun b o e => by
      by_cases z : b = c
      · rw [z, upd_same]
        rw [z, CA.at_] at e
        exact e
      · exact (upd_ne z).trans (S.sm _ _ (g0 b o z e))
    have Dc : D ≠ c := fun z => by rw [z, fz] at nD; cases nD
    have hD3 : upd H2 c (.dK (kvR ks0 ad0)) D = some (.lst (ts.map V.ref)) := (upd_ne Dc).trans S.at_
    have pr3 : Paired (fun t kv => SqT K (upd H2 c (.dK (kvR ks0 ad0))) t [kV kv.1, kv.2]) ts (kvR ks0 ad) := Paired.mapP S.pr fun x k hx => stOf0 ((upd_ne (fun z => by rw [z, fz2] at hx; cases hx)).trans hx)
    have adc : ∀ y ∈ ks0, ad y ≠ c := fun y hy e => by have := S.fr y hy; rw [e, fz] at this; cases this
    have fl3 : ∀ y ∈ ks0, upd H2 c (.dK (kvR ks0 ad0)) (ad y) = some (.dK (kvF (FF y))) := fun y hy => (upd_ne (adc y hy)).trans (S.fl y hy)
    have fr : ∀ y ∈ ks0, H (ad y) = none := fun y hy => f0 _ (S.fr y hy)
    have dj := S.dj
    clear S fz2
    generalize upd H2 c (.dK (kvR ks0 ad0)) = H3 at e3 hD3 pr3 fl3 ⊢
    refine ⟨D, ts, _, rfl, sqOf0 hD3, pr3, fun d nd => ?_⟩
    rw [show mergeK [] (kvR ks0 ad) = kvR ks0 ad from merge_kv (fun z => V.ref (ad z)) ks0 [] (by rw [List.nil_append]; exact FO.nd)]
    have fd : H d = none := e3.free nd
    have NA0 : NowAt H (upd H3 d (.dK (kvR ks0 ad))) d ks0 ad FF := ⟨upd_same, fun y hy => (same_new nd) _ _ (fl3 y hy), (fun y hy e => by have := fl3 y hy; rw [e, nd] at this; cases this), fd⟩
    have e4 : Same H (upd H3 d (.dK (kvR ks0 ad))) := e3.trans (same_new nd)
    clear pr3 fl3 hD3
    show tSeq _ _ _ _ (upd H3 d (.dK (kvR ks0 ad)))
    generalize upd H3 d (.dK (kvR ks0 ad)) = H4 at NA0 e4 ⊢
    -- copy by copy
    refine ⟨_, rfl, p, rfl, ⟨xs, same_t e4 sP⟩, ?_⟩
    refine for_tup (xs := xs) (fun i σ H' => ∃ x4 x5 x6 x7 x8, σ = [some (.ref c), some (.ref p), none, some (.ref d), x4, x5, x6, x7, x8, none] ∧ NowAt H H' d ks0 ad (runL (cs.take i) FF) ∧ Same H H') ⟨none, none, none, none, none, rfl, NA0, e4⟩
      (fun i σ H' _ h => by obtain ⟨_, _, _, _, _, _, _, h⟩ := h; exact same_t h sP) ?_ ?_
    · rintro i x σ H6 hx ⟨x4, x5, x6, x7, x8, rfl, NA, e6⟩
      obtain ⟨dd, hd, Dd⟩ := tP.get hx
      rw [List.getElem?_map] at hd
      obtain ⟨cp, hcc, rfl⟩ : ∃ c, cs[i]? = some c ∧ cpD c = dd := by
        cases h : cs[i]? with
        | none => rw [h] at hd; cases hd
        | some c => rw [h] at hd; cases hd; exact ⟨c, rfl, rfl⟩
      have ck := SC.ok cp (List.mem_of_getElem? hcc)
      have ao := allok_runL (cs := cs.take i) AO fun c hc => SC.ok c (List.mem_of_mem_take hc)
      have oa := ao _ ck.a
      have ob := ao _ ck.b
      obtain ⟨b, rfl, bj, sb⟩ := cp_inv (Dd.same e6)
      rw [runL_take hcc, stepL_X]
      generalize runL (cs.take i) FF = R at NA oa ob ⊢
      refine ⟨b, cpV cp, rfl, sb, rfl, _, _, rfl, _, _, rfl, _, _, rfl, rfl, ?_⟩
      have gT : DGet H6 d (.str cp.2.2) (some (.ref (ad cp.2.2))) := kv_val (ad := ad) ck.b ▸ DGet.k (k := .inr cp.2.2) NA.at_
      refine ⟨_, rfl, _, rfl, d, _, rfl, gT, ?_⟩
      have st : ad cp.2.1 ≠ ad cp.2.2 := fun e => ck.n (dj _ ck.a _ ck.b e)
      have sd : ad cp.2.1 ≠ d := NA.ne _ ck.a
      have td : ad cp.2.2 ≠ d := NA.ne _ ck.b
      refine ⟨ad cp.2.1, _, NA.files _ ck.a, trivial, fun od2 => ?_⟩
      have fz7 : upd H6 (ad cp.2.1) (.frz od2 (.dK (kvF (R cp.2.1)))) (ad cp.2.1) = some (.frz od2 (.dK (kvF (R cp.2.1)))) := upd_same
      have g7 : ∀ b o, b ≠ ad cp.2.1 → H6 b = some o → upd H6 (ad cp.2.1) (.frz od2 (.dK (kvF (R cp.2.1)))) b = some o := fun b o n e => (upd_ne n).trans e
      generalize upd H6 (ad cp.2.1) (.frz od2 (.dK (kvF (R cp.2.1)))) = H7 at fz7 g7 ⊢
      have gS : ∀ {H' : Hp}, H' d = some (.dK (kvR ks0 ad)) → DGet H' d (.str cp.2.1) (some (.ref (ad cp.2.1))) := fun e => kv_val (ad := ad) ck.a ▸ DGet.k (k := .inr cp.2.1) e
      refine ⟨_, rfl, _, rfl, d, _, rfl, gS (g7 _ _ sd.symm NA.at_), ad cp.2.1, od2, rfl, .inl ⟨_, fz7, ?_⟩⟩
      have sub : ∀ k, ∀ z ∈ ((R cp.2.1).take k).map (·.1), z ∈ PT := fun k z hz => by
        rw [List.map_take] at hz
        exact oa.sub z (List.mem_of_mem_take hz)
      refine for_it (walk_keys (kvs := kvF (R cp.2.1))) (fun k σ H' => (∃ x8, σ = [some (.ref c), some (.ref p), none, some (.ref d), some (.str cp.1), some (.str cp.2.1), some (.str cp.2.2), some (.ref (ad cp.2.2)), x8, none]) ∧ H' (ad cp.2.2) = some (.dK (kvF (jX cp.1 (R cp.2.2) ((R cp.2.1).take k)))) ∧
        ∀ b o, b ≠ ad cp.2.2 → H7 b = some o → H' b = some o) ⟨⟨_, rfl⟩, ?_, fun b o _ e => e⟩ (fun k σ H' _ h => h.2.2 _ _ st fz7) ?_ ?_
      · rw [g7 _ _ st.symm (NA.files _ ck.b)]
        unfold jX
        split <;> rfl
      · rintro k x σ H8 H9 hk ⟨⟨x8, rfl⟩, hT, oth⟩ ⟨rfl, kk, vv, hkv, rfl⟩
        rw [List.getElem?_map] at hkv
        obtain ⟨z, hz, rfl, rfl⟩ : ∃ z, (R cp.2.1)[k]? = some z ∧ kk = .inr z.1 ∧ vv = .str z.2 := by
          cases h : (R cp.2.1)[k]? with
          | none => rw [h] at hkv; cases hkv
          | some z => rw [h] at hkv; cases hkv; exact ⟨z, rfl, rfl, rfl⟩
        have mz := List.mem_of_getElem? hz
        have hf := oth _ _ st fz7
        have hd := oth _ _ td.symm (g7 _ _ sd.symm NA.at_)
        have ev : valV (kvF (R cp.2.1)) (Sum.inr z.1) = some (.str z.2) := by rw [kvF_val, get_mem oa.nd mz]; rfl
        have gV : DGet H9 (ad cp.2.1) (.str z.1) (some (.str z.2)) := ev ▸ (.inl ⟨kvF (R cp.2.1), .inr z.1, .inr ⟨od2, hf⟩, rfl, rfl⟩ : DGet H9 (ad cp.2.1) (kV (.inr z.1)) (valV (kvF (R cp.2.1)) (.inr z.1)))
        have jk := jX_take (w := cp.1) (a := R cp.2.2) hz
        have oj : FOk PT (jX cp.1 (R cp.2.2) ((R cp.2.1).take k)) := jX_ok ob (sub k)
        rw [jk]
        generalize jX cp.1 (R cp.2.2) ((R cp.2.1).take k) = J at hT oj ⊢
        have lk : (kvF J).length < sizeLine := by rw [List.length_map]; exact small1000 (by have := oj.len; omega)
        refine ⟨_, rfl, rfl, _, rfl, ite2 (fun g => ?_) (fun g => ?_)⟩
        · have ew : cp.1 = Str.ofString "over" := by have := of_decide_eq_true g; injection this
          refine ⟨_, rfl, _, rfl, d, _, rfl, gS hd, _, rfl, ad cp.2.1, _, rfl, gV, _, rfl, _, rfl, ad cp.2.2, _, rfl, DPut.k (k := .inr z.1) hT lk, ?_⟩
          rw [kvF_put oj.nd, if_pos (.inl ew)]
          exact ⟨⟨_, rfl⟩, upd_same, fun b o n e => (upd_ne n).trans (oth b o n e)⟩
        · have ew : ¬ cp.1 = Str.ofString "over" := fun z => g (decide_eq_true (congrArg V.str z))
          have gJ : DGet H9 (ad cp.2.2) (.str z.1) (valV (kvF J) (.inr z.1)) := DGet.k (k := .inr z.1) hT
          refine ⟨_, rfl, _, rfl, ad cp.2.2, _, rfl, gJ, _, rfl, ite2 (fun g2 => ?_) (fun g2 => ?_)⟩
          · have nz : z.1 ∉ J.map (·.1) := by
              rw [kvF_val] at g2
              cases h : getF J z.1 with
              | none => exact getF_none.mp h
              | some v => rw [h] at g2; exact absurd g2 (by simp)
            refine ⟨_, rfl, _, rfl, d, _, rfl, gS hd, _, rfl, ad cp.2.1, _, rfl, gV, _, rfl, _, rfl, ad cp.2.2, _, rfl, DPut.k (k := .inr z.1) hT lk, ?_⟩
            rw [kvF_put oj.nd, if_pos (.inr nz)]
            exact ⟨⟨_, rfl⟩, upd_same, fun b o n e => (upd_ne n).trans (oth b o n e)⟩
          · have iz : z.1 ∈ J.map (·.1) := by
              by_cases h : z.1 ∈ J.map (·.1)
              · exact h
              · rw [kvF_val, getF_none.mpr h] at g2
                exact absurd rfl g2
            rw [if_neg (fun h => h.elim ew fun n => n iz)]
            exact ⟨⟨_, rfl⟩, hT, oth⟩
      · rintro σ H8 ⟨⟨x8, rfl⟩, hT, oth⟩
        rw [List.length_map, List.take_of_length_le (Nat.le_refl _)] at hT
        refine ⟨oth _ _ st fz7, ?_⟩
        have key : ∀ b o, b ≠ ad cp.2.2 → H6 b = some o → upd H8 (ad cp.2.1) (.dK (kvF (R cp.2.1))) b = some o := fun b o n e => by
          by_cases z : b = ad cp.2.1
          · rw [z, upd_same]
            rw [z, NA.files _ ck.a] at e
            exact e
          · exact (upd_ne z).trans (oth b o n (g7 b o z e))
        refine ⟨_, _, _, _, _, rfl, ⟨key _ _ td.symm NA.at_, fun y hy => ?_, NA.ne, fd⟩, fun b o e => key b o (fun z => by rw [z, fr _ ck.b] at e; cases e) (e6 b o e)⟩
        show upd H8 _ _ (ad y) = some (.dK (kvF (if y = cp.2.2 then jX cp.1 (R cp.2.2) (R cp.2.1) else R y)))
        by_cases e : y = cp.2.2
        · rw [if_pos e, e, upd_ne st.symm]
          exact hT
        · rw [if_neg e]
          exact key _ _ (fun z => e (dj _ hy _ ck.b z)) (NA.files y hy)
    rintro σ H6 ⟨x4, x5, x6, x7, x8, rfl, NA, e6⟩
    rw [List.take_of_length_le (by omega)] at NA
    have ao := allok_runL (cs := cs) AO SC.ok
    generalize runL cs FF = R at NA ao q ⊢
    -- with ascending keys
    refine fun D2 nD2 => ?_
    have fD : H D2 = none := e6.free nD2
    have dD : d ≠ D2 := ne_of_none NA.at_ nD2
    have adD : ∀ y ∈ ks0, ad y ≠ D2 := fun y hy => ne_of_none (NA.files y hy) nD2
    have e7 : Same H6 (upd H6 D2 (.dK [])) := same_new nD2
    have hD7 : upd H6 D2 (.dK []) D2 = some (.dK []) := upd_same
    have e07 := e6.trans e7
    have NA7 := NA.same e7
    show tSeq _ _ _ _ (upd H6 D2 (.dK []))
    generalize upd H6 D2 (.dK []) = H7 at e07 hD7 NA7 ⊢
    clear NA e7
    refine ⟨_, rfl, d, kvR ks0 ad, ks0, rfl, .inl NA7.at_, by rw [List.map_map]; rfl, by omega, fun ks sp pm so ns => ?_⟩
    have e8 : Same H7 (upd H7 sp (.lst (ks.map V.str))) := same_new ns
    have hsp : upd H7 sp (.lst (ks.map V.str)) sp = some (.lst (ks.map V.str)) := upd_same
    have knd : ks.Nodup := pm.nodup_iff.mpr FO.nd
    have kle : ks.length ≤ 20 := by rw [pm.length_eq]; exact FO.hi
    have spD : sp ≠ D2 := (ne_of_none hD7 ns).symm
    have e08 := e07.trans e8
    have hD8 := e8 _ _ hD7
    have NA8 := NA7.same e8
    refine ⟨sp, rfl, ⟨_, sqOf0 hsp⟩, ?_⟩
    generalize upd H7 sp (.lst (ks.map V.str)) = H8 at e08 hsp hD8 NA8 ⊢
    clear NA7 e8 hD7
    refine for_it (walk_list (xs := ks.map V.str)) (fun i σ H' => (∃ x2 x4 x5 x6 x7 x8, σ = [some (.ref c), some (.ref p), x2, some (.ref d), x4, x5, x6, x7, x8, some (.ref D2)]) ∧ ∃ (ad2 : Str → Addr) (G : Str → Fs), H' D2 = some (.dK (kvR (ks.take i) ad2)) ∧ (∀ y ∈ ks.take i, H' (ad2 y) = some (.dK (kvF (G y))) ∧ IsSrt (R y) (G y) ∧ H (ad2 y) = none ∧ ad2 y ≠ D2) ∧ ∀ b o, b ≠ D2 → H8 b = some o → H' b = some o)
      ⟨⟨_, _, _, _, _, _, rfl⟩, fun _ => 0, fun _ => [], hD8, (fun y hy => nomatch hy), fun b o _ e => e⟩ (fun i σ H' _ h => by obtain ⟨_, _, _, _, _, h⟩ := h; exact sqOf0 (h _ _ spD hsp)) ?_ ?_
    · rintro i x σ H9 H10 hi ⟨⟨x2, x4, x5, x6, x7, x8, rfl⟩, ad2, G, hD, hG, oth⟩ ⟨rfl, hx⟩
      obtain ⟨y, hy, rfl⟩ := strs_at hx
      have my : y ∈ ks0 := pm.mem_iff.mp (List.mem_of_getElem? hy)
      have ny := nin_take knd hy
      have oy := ao y my
      have l40 : (R y).length ≤ 40 := by have := oy.len; omega
      have hd10 := oth _ _ dD NA8.at_
      have ha10 := oth _ _ (adD y my) (NA8.files y my)
      have gy : ∀ {H' : Hp}, Same H10 H' → DGet H' d (.str y) (some (.ref (ad y))) := fun e => kv_val (ad := ad) my ▸ DGet.k (k := .inr y) (e _ _ hd10)
      refine ⟨_, rfl, _, rfl, d, _, rfl, gy (Same.refl _), ad y, kvF (R y), (R y).map (·.1), rfl, .inl ha10, by rw [List.map_map, List.map_map]; rfl, by rw [List.length_map]; omega, fun ps sp2 pm2 so2 ns2 => ?_⟩
      have e11 : Same H10 (upd H10 sp2 (.lst (ps.map V.str))) := same_new ns2
      have hs2 : upd H10 sp2 (.lst (ps.map V.str)) sp2 = some (.lst (ps.map V.str)) := upd_same
      have pnd : ps.Nodup := pm2.nodup_iff.mpr oy.nd
      have ple : ps.length ≤ 40 := by rw [pm2.length_eq, List.length_map]; exact l40
      refine ⟨sp2, rfl, ⟨_, sqOf0 hs2⟩, fun D3 nD3 => ?_⟩
      generalize upd H10 sp2 (.lst (ps.map V.str)) = H11 at e11 hs2 nD3 ⊢
      refine lc_it (walk_list (xs := ps.map V.str)) (fun k H' => ∃ ts : List Addr, H' D3 = some (.lst (ts.map V.ref)) ∧ Paired (fun t kv => H' t = some (.tup [kV kv.1, kv.2])) ts (kvS (ps.take k) fun k => .str ((getF (R y) k).getD Str.empty)) ∧ Same H11 H') ⟨[], upd_same, .nil, same_new nD3⟩ (fun k H' _ h => by obtain ⟨_, _, _, h⟩ := h; exact sqOf0 (h _ _ hs2)) ?_ ?_
      · rintro k x H12 H13 hk ⟨ts, hD3, pr, e12⟩ ⟨rfl, hx3⟩
        obtain ⟨z, hz, rfl⟩ := strs_at hx3
        have mz : z ∈ (R y).map (·.1) := pm2.mem_iff.mp (List.mem_of_getElem? hz)
        obtain ⟨v, hv⟩ : ∃ v, getF (R y) z = some v := by
          cases h : getF (R y) z with
          | none => exact absurd mz (getF_none.mp h)
          | some v => exact ⟨v, rfl⟩
        have e013 := e11.trans e12
        have gV : DGet H13 (ad y) (.str z) (some (.str v)) := by
          have e : valV (kvF (R y)) (Sum.inr z) = some (.str v) := by rw [kvF_val, hv]; rfl
          exact e ▸ DGet.k (k := .inr z) (e013 _ _ ha10)
        refine ⟨rfl, _, rfl, _, rfl, _, rfl, d, _, rfl, gy e013, _, rfl, ad y, _, rfl, gV, by show 2 ≤ sizeLine; decide, fun t nt => ?_⟩
        have e14 : Same H13 (upd H13 t (.tup [.str z, .str v])) := same_new nt
        have ht : upd H13 t (.tup [.str z, .str v]) t = some (.tup [.str z, .str v]) := upd_same
        generalize upd H13 t (.tup [.str z, .str v]) = H14 at e14 ht ⊢
        have hD4 := e14 _ _ hD3
        have lt : ts.length = (ps.take k).length := by have := paired_len pr; rw [List.length_map] at this; exact this
        have up : ∀ {b : Addr} {zs : List V}, H14 b = some (.tup zs) → upd H14 D3 (.lst (ts.map V.ref ++ [V.ref t])) b = some (.tup zs) := fun h => (upd_ne (fun z => by rw [z, hD4] at h; cases h)).trans h
        refine ⟨_, hD4, by rw [List.length_map, lt, List.length_take]; exact small1000 (by omega), ts ++ [t], by rw [upd_same, List.map_append]; rfl, ?_, same_up (e12.trans e14) nD3⟩
        rw [take_one hz]
        show Paired _ _ ((ps.take k ++ [z]).map _)
        rw [List.map_append]
        refine paired_snoc (Paired.mapP pr fun x c hx => up (e14 _ _ hx)) (up ?_)
        show H14 t = some (.tup [.str z, .str ((getF (R y) z).getD Str.empty)])
        rw [hv]
        exact ht
      rintro H12 ⟨ts, hD3, pr, e12⟩
      rw [List.length_map, List.take_of_length_le (Nat.le_refl _)] at pr
      refine ⟨D3, ts, _, rfl, sqOf0 hD3, Paired.mapP pr fun x k hx => stOf0 hx, fun r nr => ?_⟩
      rw [show mergeK [] (kvS ps fun k => V.str ((getF (R y) k).getD Str.empty)) = kvS ps fun k => V.str ((getF (R y) k).getD Str.empty) from merge_kv (fun k => V.str ((getF (R y) k).getD Str.empty)) ps [] (by rw [List.nil_append]; exact pnd), ← kvF_map]
      have e13 := e11.trans e12
      have e913 : Same H10 (upd H12 r (.dK (kvF (ps.map fun k => (k, (getF (R y) k).getD Str.empty))))) := e13.trans (same_new nr)
      have hr : upd H12 r (.dK (kvF (ps.map fun k => (k, (getF (R y) k).getD Str.empty)))) r = some (.dK (kvF (ps.map fun k => (k, (getF (R y) k).getD Str.empty)))) := upd_same
      have r10 : H10 r = none := e13.free nr
      have rD : r ≠ D2 := (ne_of_none hD r10).symm
      have r8 : H r = none := e08.free (by
        cases h : H8 r with
        | none => rfl
        | some o => have := oth r o rD h; rw [r10] at this; cases this)
      generalize upd H12 r (.dK (kvF (ps.map fun k => (k, (getF (R y) k).getD Str.empty)))) = H13 at e913 hr ⊢
      have hD13 := e913 _ _ hD
      refine ⟨_, rfl, _, rfl, D2, _, rfl, DPut.k (k := .inr y) hD13 (by rw [List.length_map]; exact small1000 (by rw [List.length_take]; omega)), ?_⟩
      rw [kv_add ny]
      refine ⟨⟨_, _, _, _, _, _, rfl⟩, upA ad2 y r, (fun z => if z = y then ps.map fun k => (k, (getF (R y) k).getD Str.empty) else G z), by rw [upd_same, take_one hy], fun z hz => ?_, fun b o n e => (upd_ne n).trans (e913 _ _ (oth b o n e))⟩
      rw [take_one hy] at hz
      show upd H13 D2 _ (if z = y then r else ad2 z) = some (.dK (kvF (if z = y then _ else G z))) ∧ IsSrt (R z) (if z = y then _ else G z) ∧ H (if z = y then r else ad2 z) = none ∧ (if z = y then r else ad2 z) ≠ D2
      rcases mem_snoc hz with e | ⟨e, m⟩
      · rw [if_pos e, if_pos e, upd_ne rD, e]
        exact ⟨hr, ⟨ps, pm2, so2, rfl⟩, r8, rD⟩
      · obtain ⟨h1, h2, h3, h4⟩ := hG z m
        rw [if_neg e, if_neg e, upd_ne h4]
        exact ⟨e913 _ _ h1, h2, h3, h4⟩
    · rintro σ H9 ⟨⟨x2, x4, x5, x6, x7, x8, rfl⟩, ad2, G, hD, hG, oth⟩
      rw [List.length_map, List.take_of_length_le (Nat.le_refl _)] at hD
      rw [List.length_map, List.take_of_length_le (Nat.le_refl _)] at hG
      exact ⟨_, rfl, q D2 ks ad2 G H9 pm so (fun y hy => (hG y hy).2.1) ⟨hD, fun y hy => (hG y hy).1, fun y hy => (hG y hy).2.2.2, fD, fun y hy => (hG y hy).2.2.1⟩ fun b o e => oth b o (fun z => by rw [z, fD] at e; cases e) (e08 b o e)⟩
end
end Cv

/-! part K08K -/
set_option maxRecDepth 100000
set_option maxHeartbeats 4000000
namespace Cv
open PySem PySem.Spec PyProof.Rows L2
theorem nd_rev {α : Type} {l : List α} (h : l.Nodup) : l.reverse.Nodup := (List.reverse_perm l).nodup_iff.mpr h
theorem paired_rev {α β : Type} {R : α → β → Prop} : ∀ {l : List α} {m : List β}, Paired R l m → Paired R l.reverse m.reverse
  | _, _, .nil => .nil
  | _, _, .cons h t => by
    rw [List.reverse_cons, List.reverse_cons]
    exact paired_snoc (paired_rev t) h
theorem kvF_self {fs : Fs} (nd : (fs.map (·.1)).Nodup) : mergeK [] (kvF fs) = kvF fs := by
  have h := kvF_merge (a := []) (b := fs) (fok_nil (fs.map (·.1))) (fun k h => h)
  rw [jn_nil nd] at h
  exact h
theorem rev_nd {fs : Fs} (nd : (fs.map (·.1)).Nodup) : (fs.reverse.map (·.1)).Nodup := by
  rw [List.map_reverse]
  exact nd_rev nd
theorem rev_eq {fs : Fs} (nd : (fs.map (·.1)).Nodup) : EqF fs fs.reverse := fun k => by
  by_cases h : k ∈ fs.map (·.1)
  · obtain ⟨p, hp, rfl⟩ := List.mem_map.mp h
    rw [get_mem nd hp, get_mem (rev_nd nd) (List.mem_reverse.mpr hp)]
  · rw [getF_none.mpr h, getF_none.mpr]
    rw [List.map_reverse, List.mem_reverse]
    exact h
theorem FOk.rev {PT : List Str} {fs : Fs} (h : FOk PT fs) : FOk PT fs.reverse := ⟨rev_nd h.nd, fun k hk => by rw [List.map_reverse, List.mem_reverse] at hk; exact h.sub k hk⟩
theorem FilesOk.rev {fs : Fs} (h : FilesOk fs) : FilesOk fs.reverse := ⟨rev_nd h.nd, by rw [List.length_reverse]; exact h.le, fun p hp => h.pt p (List.mem_reverse.mp hp)⟩
theorem Fold.rev {ys : List Str} (h : Fold ys) : Fold ys.reverse := ⟨by rw [List.length_reverse]; exact h.lo, by rw [List.length_reverse]; exact h.hi, nd_rev h.nd, fun y hy => h.nm y (List.mem_reverse.mp hy)⟩
def spTurn : Sp := fun vs H Q _ => ∃ (c : Addr) (ks0 : List Str) (ad0 : Str → Addr) (F : Str → Fs), vs = [.ref c] ∧ ConAt H c ks0 ad0 F ∧ Fold ks0 ∧ (∀ y ∈ ks0, FilesOk (F y)) ∧
  ∀ (d : Addr) (ad : Str → Addr) (H' : Hp), ConAt H' d ks0.reverse ad (fun y => (F y).reverse) → Same H H' → Q (.ref d) H'
section
variable {P : Program} {w : World} {K : PySem.W.Frag} {mg : Str → Option Value} {base : Heap}
theorem scTu : FnScope ["contents_here", "found", "one"] ["contents_here"] (defScope sTurn) := ⟨rfl, rfl, rfl, by decide +kernel, rfl, by decide +kernel, by decide +kernel⟩
theorem ok_turn {f : Addr} {fd : FuncData} (F : Fun K "_law_turned" "_law_turned" sTurn f fd) (B : Bl mg) : FnOk P w K mg base CX0 1 f fd ["contents_here"] spTurn := by
  refine F.ok scTu (fun vs H Q E h => ?_) (fun cdv A outer s H vs Q E hr h => ?_)
  · obtain ⟨c, ks0, ad0, F, rfl, _⟩ := h
    rfl
  · obtain ⟨c, ks0, ad0, FF, rfl, CA, FO, FI, q⟩ := h
    refine ⟨_, pss_cons (ps_set (i := 1) scTu.nd rfl (.inl rfl) pe_dnewK)
      (pss_cons (ps_for PassesOwn.never rfl (pi_list (pe_revL (pe_callTy (call_listD rfl) (by rfl) B.list (by decide +kernel) (pa_cons (pv 0) pa_nil)))) (pg_name (i := 2) scTu.nd rfl (.inl rfl))
        (pss_one (ps_dput (hu1 hr) (pv 1) (pv 2) (pe_callTy (call_dictP rfl) (by rfl) B.dict (by decide +kernel) (pa_cons (pe_revL (LiI.pe_listItems rfl (pe_dget (hu1 hr) (pv 0) (pv 2) (fun _ _ => rfl)) (by rfl) B.list (by decide +kernel))) pa_nil)) rfl)))
      (pss_one (ps_ret (pv 1)))), ?_⟩
    have k20 := FO.hi
    refine fun d nd => ?_
    have e1 : Same H (upd H d (.dK [])) := same_new nd
    have hd1 : upd H d (.dK []) d = some (.dK []) := upd_same
    show tSeq _ _ _ _ (upd H d (.dK []))
    generalize upd H d (.dK []) = H1 at e1 hd1 ⊢
    refine ⟨_, rfl, c, kvR ks0 ad0, rfl, .inl (e1 _ _ CA.at_), fun p np => ?_⟩
    have ek : (kvR ks0 ad0).map (fun kv => kV kv.1) = ks0.map V.str := by rw [List.map_map]; rfl
    rw [ek]
    have e2 : Same H1 (upd H1 p (.lst (ks0.map V.str))) := same_new np
    have hp : upd H1 p (.lst (ks0.map V.str)) p = some (.lst (ks0.map V.str)) := upd_same
    have hd2 := e2 _ _ hd1
    have e02 := e1.trans e2
    generalize upd H1 p (.lst (ks0.map V.str)) = H2 at e02 hp hd2 ⊢
    refine ⟨p, _, rfl, sqOf0 hp, fun r nr => ?_⟩
    rw [← List.map_reverse]
    have e3 : Same H2 (upd H2 r (.lst (ks0.reverse.map V.str))) := same_new nr
    have hr3 : upd H2 r (.lst (ks0.reverse.map V.str)) r = some (.lst (ks0.reverse.map V.str)) := upd_same
    have hd3 := e3 _ _ hd2
    have e03 := e02.trans e3
    have rd : r ≠ d := (ne_of_none hd2 nr).symm
    have FR := FO.rev
    refine ⟨r, rfl, ⟨_, sqOf0 hr3⟩, ?_⟩
    generalize upd H2 r (.lst (ks0.reverse.map V.str)) = H3 at e03 hr3 hd3 ⊢
    refine for_it (walk_list (xs := ks0.reverse.map V.str)) (fun i σ H' => (∃ x2, σ = [some (.ref c), some (.ref d), x2]) ∧ ∃ ad : Str → Addr, H' d = some (.dK (kvR (ks0.reverse.take i) ad)) ∧ (∀ y ∈ ks0.reverse.take i, H' (ad y) = some (.dK (kvF (FF y).reverse)) ∧ ad y ≠ d) ∧ ∀ b o, b ≠ d → H3 b = some o → H' b = some o)
      ⟨⟨_, rfl⟩, fun _ => 0, hd3, (fun y hy => nomatch hy), fun b o _ e => e⟩ (fun i σ H' _ h => by obtain ⟨_, _, _, _, h⟩ := h; exact sqOf0 (h _ _ rd hr3)) ?_ ?_
    · rintro i x σ H4 H5 hi ⟨⟨x2, rfl⟩, ad, hD, hF, oth⟩ ⟨rfl, hx⟩
      obtain ⟨y, hy, rfl⟩ := strs_at hx
      have my : y ∈ ks0 := List.mem_reverse.mp (List.mem_of_getElem? hy)
      have ny := nin_take FR.nd hy
      have dc : ∀ {b : Addr} {o : HO}, H b = some o → b ≠ d := fun h z => by rw [z, nd] at h; cases h
      have hc5 := oth _ _ (dc CA.at_) (e03 _ _ CA.at_)
      have hf5 := oth _ _ (dc (CA.files y my)) (e03 _ _ (CA.files y my))
      have g : DGet H5 c (.str y) (some (.ref (ad0 y))) := kv_val (ad := ad0) my ▸ DGet.k (k := .inr y) hc5
      have fo := FI y my
      refine ⟨_, rfl, _, rfl, c, _, rfl, g, ad0 y, kvF (FF y), rfl, hf5, fun H6 p6 ts e6 n6 nt np6 hp6 pr6 => ?_⟩
      refine ⟨p6, _, rfl, sqOf0 hp6, fun r7 n7 => ?_⟩
      rw [← List.map_reverse]
      have e7 : Same H6 (upd H6 r7 (.lst (ts.reverse.map V.ref))) := same_new n7
      have pr7 := paired_rev pr6
      have ekf : (kvF (FF y)).reverse = kvF (FF y).reverse := (List.map_reverse ..).symm
      rw [ekf] at pr7
      refine ⟨r7, ts.reverse, _, rfl, sqOf0 upd_same, Paired.mapP pr7 fun x k hx => stOf0 (e7 _ _ hx), fun r8 n8 => ?_⟩
      rw [kvF_self (rev_nd fo.nd)]
      have e8 : Same H5 (upd (upd H6 r7 (.lst (ts.reverse.map V.ref))) r8 (.dK (kvF (FF y).reverse))) := (fun b o e => (same_new n8) _ _ (e7 _ _ (e6 b o e)))
      have h8 : upd (upd H6 r7 (.lst (ts.reverse.map V.ref))) r8 (.dK (kvF (FF y).reverse)) r8 = some (.dK (kvF (FF y).reverse)) := upd_same
      have r85 : H5 r8 = none := Same.free (fun b o e => e7 _ _ (e6 b o e)) n8
      have r8d : r8 ≠ d := (ne_of_none hD r85).symm
      generalize upd (upd H6 r7 (.lst (ts.reverse.map V.ref))) r8 (.dK (kvF (FF y).reverse)) = H8 at e8 h8 ⊢
      have hD8 := e8 _ _ hD
      refine ⟨_, rfl, _, rfl, d, _, rfl, DPut.k (k := .inr y) hD8 (by rw [List.length_map]; exact small1000 (by rw [List.length_take, List.length_reverse]; omega)), ?_⟩
      rw [kv_add ny]
      refine ⟨⟨_, rfl⟩, upA ad y r8, by rw [upd_same, take_one hy], fun z hz => ?_, fun b o n e => (upd_ne n).trans (e8 _ _ (oth b o n e))⟩
      rw [take_one hy] at hz
      show upd H8 d _ (if z = y then r8 else ad z) = _ ∧ (if z = y then r8 else ad z) ≠ d
      rcases mem_snoc hz with e | ⟨e, m⟩
      · rw [if_pos e, upd_ne r8d, e]
        exact ⟨h8, r8d⟩
      · rw [if_neg e, upd_ne (hF z m).2]
        exact ⟨e8 _ _ (hF z m).1, (hF z m).2⟩
    · rintro σ H4 ⟨⟨x2, rfl⟩, ad, hD, hF, oth⟩
      rw [List.length_map, List.take_of_length_le (Nat.le_refl _)] at hD
      rw [List.length_map, List.take_of_length_le (Nat.le_refl _)] at hF
      exact ⟨_, rfl, q d ad H4 ⟨hD, fun y hy => (hF y hy).1, fun y hy => (hF y hy).2⟩ fun b o e => oth b o (fun z => by rw [z, nd] at e; cases e) (e03 b o e)⟩
end
end Cv

/-! part K08Q -/
set_option maxRecDepth 100000
set_option maxHeartbeats 4000000
namespace Cv
open PySem PySem.Spec PyProof.Rows L2
/-! ### what repr may show, dicts too -/
structure Gr (d : PyData) (n k : Nat) : Prop where
  ls : d.leavesShort 13 = true
  sh : d.showable = true
  dp : d.depth ≤ k
  wt : d.weight ≤ n
theorem Gd.gr {d : PyData} {n k : Nat} (h : Gd d n k) : Gr d n k := ⟨h.ls, h.sh, h.dp, h.wt⟩
theorem Gr.fits {d : PyData} {n k : Nat} (h : Gr d n k) (hn : n ≤ 2 ^ 20) : d.shown.length ≤ sizeLine := PyData.shown_fits (B := 13) (by decide) (by decide) h.ls (Nat.le_trans h.wt hn)
theorem Gr.mono {d : PyData} {n n' k k' : Nat} (h : Gr d n k) (hn : n ≤ n') (hk : k ≤ k') : Gr d n' k' := ⟨h.ls, h.sh, Nat.le_trans h.dp hk, Nat.le_trans h.wt hn⟩
theorem gr_kv {g : Str → PyData} {n k : Nat} : ∀ {ks : List Str}, (∀ y ∈ ks, IsNm y) → (∀ y ∈ ks, Gr (g y) n k) → PyData.leavesShortKv 13 (ks.map fun y => (.str y, g y)) = true ∧ PyData.showableKv (ks.map fun y => (.str y, g y)) = true ∧
    PyData.depthKv (ks.map fun y => (.str y, g y)) ≤ k ∧ PyData.weightKv (ks.map fun y => (.str y, g y)) ≤ (n + 10) * ks.length
  | [], _, _ => by
    refine ⟨rfl, rfl, ?_, ?_⟩
    · show PyData.depthKv [] ≤ k
      simp only [PyData.depthKv]
      exact Nat.zero_le _
    · show PyData.weightKv [] ≤ _
      simp only [PyData.weightKv]
      exact Nat.zero_le _
  | y :: ks, hn, hg => by
    obtain ⟨a, b, c, d⟩ := gr_kv (fun z hz => hn z (List.mem_cons_of_mem _ hz)) (fun z hz => hg z (List.mem_cons_of_mem _ hz))
    have s := nm_gd (hn y List.mem_cons_self) 0
    have t := hg y List.mem_cons_self
    refine ⟨?_, ?_, ?_, ?_⟩
    · show PyData.leavesShortKv 13 ((.str y, g y) :: ks.map fun y => (.str y, g y)) = true
      simp only [PyData.leavesShortKv, s.ls, t.ls, a, Bool.and_self]
    · show PyData.showableKv ((.str y, g y) :: ks.map fun y => (.str y, g y)) = true
      simp only [PyData.showableKv, s.sh, t.sh, b, Bool.and_self]
    · show PyData.depthKv ((.str y, g y) :: ks.map fun y => (.str y, g y)) ≤ k
      simp only [PyData.depthKv]
      exact Nat.max_le.mpr ⟨Nat.max_le.mpr ⟨Nat.le_trans s.dp (Nat.zero_le _), t.dp⟩, c⟩
    · show PyData.weightKv ((.str y, g y) :: ks.map fun y => (.str y, g y)) ≤ _
      simp only [PyData.weightKv]
      have h1 := s.wt
      have h2 := t.wt
      rw [List.length_cons, Nat.mul_succ]
      omega
theorem Gr.dic {g : Str → PyData} {n k : Nat} {ks : List Str} (hn : ∀ y ∈ ks, IsNm y) (hg : ∀ y ∈ ks, Gr (g y) n k) : Gr (.dict (ks.map fun y => (.str y, g y))) ((n + 10) * ks.length) (k + 1) := by
  obtain ⟨a, b, c, d⟩ := gr_kv hn hg
  exact ⟨by simpa only [PyData.leavesShort] using a, by simpa only [PyData.showable] using b, by simpa only [PyData.depth] using Nat.succ_le_succ c, by simpa only [PyData.weight] using d⟩
theorem Gr.two {a b : PyData} {n k : Nat} (h : Gr a n k) (g : Gr b n k) : Gr (.list [a, b]) (2 * n + 2) (k + 1) := by
  refine ⟨?_, ?_, ?_, ?_⟩
  · simp only [PyData.leavesShort, PyData.leavesShortAll, h.ls, g.ls, Bool.and_self]
  · simp only [PyData.showable, PyData.showableAll, h.sh, g.sh, Bool.and_self]
  · simp only [PyData.depth, PyData.depthAll]
    have := h.dp
    have := g.dp
    omega
  · simp only [PyData.weight, PyData.weightAll]
    have := h.wt
    have := g.wt
    omega
theorem Gr.three {a : PyData} {n k : Nat} (h : Gr a n k) : Gr (.list [a, a, a]) (3 * n + 3) (k + 1) := by
  refine ⟨?_, ?_, ?_, ?_⟩
  · simp only [PyData.leavesShort, PyData.leavesShortAll, h.ls, Bool.and_self]
  · simp only [PyData.showable, PyData.showableAll, h.sh, Bool.and_self]
  · simp only [PyData.depth, PyData.depthAll]
    have := h.dp
    omega
  · simp only [PyData.weight, PyData.weightAll]
    have := h.wt
    omega
/-! ### files and contents as data -/
def Vt (p0 k v : Str) : Prop := v.length ≤ 3000 ∧ (∀ c ∈ v.cps.toList, c < 1000) ∧ (k ≠ p0 → v.length ≤ 28)
structure Fine (p0 : Str) (fs : Fs) : Prop where
  ok : FilesOk fs
  vt : ∀ p ∈ fs, Vt p0 p.1 p.2
def filesD (fs : Fs) : PyData := .dict (fs.map fun p => (.str p.1, .str p.2))
def conD (ks : List Str) (F : Str → Fs) : PyData := .dict (ks.map fun y => (.str y, filesD (F y)))
theorem pt_gd {x : Str} (h : IsPt x) (k : Nat) : Gd (.str x) 20 k := .str (fun c hc => Nat.lt_trans (pt_ch h c hc) (by decide)) h.2.1 (by decide) k
theorem vt_gd {p0 k v : Str} (h : Vt p0 k v) (n : Nat) : Gd (.str v) (if k = p0 then 3000 else 28) n := by
  refine .str (fun c hc => Nat.lt_trans (h.2.1 c hc) (by decide)) ?_ (by split <;> decide) n
  split
  · exact h.1
  · rename_i e
    exact h.2.2 e
theorem files_kv {p0 : Str} : ∀ {fs : Fs}, (fs.map (·.1)).Nodup → (∀ p ∈ fs, IsPt p.1) → (∀ p ∈ fs, Vt p0 p.1 p.2) → PyData.leavesShortKv 13 (fs.map fun p => (.str p.1, .str p.2)) = true ∧ PyData.showableKv (fs.map fun p => (.str p.1, .str p.2)) = true ∧
    PyData.depthKv (fs.map fun p => (.str p.1, .str p.2)) = 0 ∧ PyData.weightKv (fs.map fun p => (.str p.1, .str p.2)) ≤ 50 * fs.length + (if p0 ∈ fs.map (·.1) then 2972 else 0)
  | [], _, _, _ => by
    refine ⟨rfl, rfl, ?_, ?_⟩
    · show PyData.depthKv [] = 0
      simp only [PyData.depthKv]
    · show PyData.weightKv [] ≤ _
      simp only [PyData.weightKv]
      exact Nat.zero_le _
  | q :: r, nd, hp, hv => by
    obtain ⟨n1, n2⟩ := List.nodup_cons.mp nd
    obtain ⟨a, b, c, d⟩ := files_kv n2 (fun p h => hp p (List.mem_cons_of_mem _ h)) (fun p h => hv p (List.mem_cons_of_mem _ h))
    have s := pt_gd (hp q List.mem_cons_self) 0
    have t := vt_gd (hv q List.mem_cons_self) 0
    refine ⟨?_, ?_, ?_, ?_⟩
    · show PyData.leavesShortKv 13 ((.str q.1, .str q.2) :: r.map fun p => (.str p.1, .str p.2)) = true
      simp only [PyData.leavesShortKv, s.ls, t.ls, a, Bool.and_self]
    · show PyData.showableKv ((.str q.1, .str q.2) :: r.map fun p => (.str p.1, .str p.2)) = true
      simp only [PyData.showableKv, s.sh, t.sh, b, Bool.and_self]
    · show PyData.depthKv ((.str q.1, .str q.2) :: r.map fun p => (.str p.1, .str p.2)) = 0
      simp only [PyData.depthKv, c, PyData.depth]
      rfl
    · show PyData.weightKv ((.str q.1, .str q.2) :: r.map fun p => (.str p.1, .str p.2)) ≤ 50 * (r.length + 1) + (if p0 ∈ q.1 :: r.map (·.1) then 2972 else 0)
      simp only [PyData.weightKv]
      have h1 := s.wt
      have h2 := t.wt
      by_cases e : q.1 = p0
      · rw [if_pos e] at h2
        rw [if_pos (by rw [e]; exact List.mem_cons_self)]
        rw [if_neg (by rw [← e]; exact n1)] at d
        omega
      · rw [if_neg e] at h2
        by_cases m : p0 ∈ r.map (·.1)
        · rw [if_pos (List.mem_cons_of_mem _ m)]
          rw [if_pos m] at d
          omega
        · rw [if_neg (fun z => by rcases List.mem_cons.mp z with z | z; exact e z.symm; exact m z)]
          rw [if_neg m] at d
          omega
theorem files_gr {p0 : Str} {fs : Fs} (h : Fine p0 fs) : Gr (filesD fs) 4972 1 := by
  obtain ⟨a, b, c, d⟩ := files_kv (p0 := p0) h.ok.nd h.ok.pt h.vt
  have l := h.ok.le
  refine ⟨by simpa only [filesD, PyData.leavesShort] using a, by simpa only [filesD, PyData.showable] using b, ?_, ?_⟩
  · unfold filesD
    simp only [PyData.depth, c]
    decide
  · unfold filesD
    simp only [PyData.weight]
    refine Nat.le_trans d ?_
    split <;> omega
theorem con_gr {p0 : Str} {ks : List Str} {F : Str → Fs} (FO : Fold ks) (h : ∀ y ∈ ks, Fine p0 (F y)) : Gr (conD ks F) 99640 2 :=
  (Gr.dic (g := fun y => filesD (F y)) FO.nm fun y hy => files_gr (h y hy)).mono (by have := FO.hi; omega) (Nat.le_refl _)
theorem files_dx {K : PySem.W.Frag} {H : Hp} {j a : Addr} {fs : Fs} (h : H a = some (.dK (kvF fs))) (n : a ≠ j) : Dx K H j (.ref a) (filesD fs) := by
  refine .dic n h ?_
  have key : ∀ l : Fs, DxKv K H j (kvF l) (l.map fun p => (.str p.1, .str p.2)) := by
    intro l
    induction l with
    | nil => exact .nil
    | cons p l ih => exact .cons (.str _) ih
  exact key fs
theorem con_dx {K : PySem.W.Frag} {H : Hp} {j d : Addr} {ks : List Str} {ad : Str → Addr} {F : Str → Fs} (hd : H d = some (.dK (kvR ks ad))) (hf : ∀ y ∈ ks, H (ad y) = some (.dK (kvF (F y)))) (n : d ≠ j) (na : ∀ y ∈ ks, ad y ≠ j) : Dx K H j (.ref d) (conD ks F) := by
  refine .dic n hd ?_
  have key : ∀ (l : List Str), (∀ y ∈ l, y ∈ ks) → DxKv K H j (kvR l ad) (l.map fun y => (.str y, filesD (F y))) := by
    intro l
    induction l with
    | nil => intro _; exact .nil
    | cons y l ih => intro hl; exact .cons (files_dx (hf y (hl y List.mem_cons_self)) (na y (hl y List.mem_cons_self))) (ih fun z hz => hl z (List.mem_cons_of_mem _ hz))
  exact key ks fun y hy => hy
theorem conD_eq {ks : List Str} {F G : Str → Fs} (h : ∀ y ∈ ks, F y = G y) : conD ks F = conD ks G := by
  unfold conD
  congr 1
  exact List.map_congr_left fun y hy => by rw [h y hy]
/-! ### what comes of a run -/
def Src (Pr : Str → Str → Prop) (ys : List Str) (F : Str → Fs) : Prop := ∀ y ∈ ys, ∀ k v, getF (F y) k = some v → Pr k v
theorem or_inv {α : Type} {a b : Option α} {v : α} (h : a.or b = some v) : a = some v ∨ b = some v := by
  cases a with
  | none => exact .inr h
  | some x => exact .inl h
theorem src_run {Pr : Str → Str → Prop} {PT ys : List Str} : ∀ {cs : List Cp} {F : Str → Fs}, AllOk PT ys F → (∀ c ∈ cs, CpOk ys c) → Src Pr ys F → Src Pr ys (runF cs F)
  | [], _, _, _, h => h
  | c :: cs, F, hF, hc, h => by
    have ck := hc c List.mem_cons_self
    refine src_run (cs := cs) (F := stepF F c) (allok_F hF ck) (fun d hd => hc d (List.mem_cons_of_mem _ hd)) fun y hy k v e => ?_
    have e2 : getF (if y = c.2.2 then (if c.1 = Str.ofString "over" then jn (F c.2.2) (F c.2.1) else jn (F c.2.1) (F c.2.2)) else F y) k = some v := e
    by_cases z : y = c.2.2
    · rw [if_pos z] at e2
      by_cases w : c.1 = Str.ofString "over"
      · rw [if_pos w, jn_get (hF _ ck.a).nd] at e2
        rcases or_inv e2 with e3 | e3
        · exact h _ ck.a k v e3
        · exact h _ ck.b k v e3
      · rw [if_neg w, jn_get (hF _ ck.b).nd] at e2
        rcases or_inv e2 with e3 | e3
        · exact h _ ck.b k v e3
        · exact h _ ck.a k v e3
    · rw [if_neg z] at e2
      exact h y hy k v e2
theorem get_in : ∀ {fs : Fs} {k v : Str}, getF fs k = some v → (k, v) ∈ fs
  | p :: r, k, v, h => by
    have h2 : (if p.1 = k then some p.2 else getF r k) = some v := h
    by_cases e : p.1 = k
    · rw [if_pos e] at h2
      rw [← e, ← Option.some.inj h2]
      exact List.mem_cons_self
    · rw [if_neg e] at h2
      exact List.mem_cons_of_mem _ (get_in h2)
theorem srt_fine {p0 : Str} {PT : List Str} {fs gs : Fs} (h : FOk PT fs) (p40 : PT.length ≤ 40) (hp : ∀ p ∈ PT, IsPt p) (hv : ∀ k v, getF fs k = some v → Vt p0 k v) (s : IsSrt fs gs) : Fine p0 gs := by
  obtain ⟨ks, pk, sk, rfl⟩ := s
  have kk : (ks.map fun k => (k, (getF fs k).getD Str.empty)).map (·.1) = ks := by
    rw [List.map_map]
    show ks.map (fun k => k) = ks
    exact List.map_id' ks
  refine ⟨⟨by rw [kk]; exact pk.nodup_iff.mpr h.nd, ?_, fun p m => ?_⟩, fun p m => ?_⟩
  · rw [List.length_map, pk.length_eq, List.length_map]
    have := h.len
    omega
  · obtain ⟨k, hk, rfl⟩ := List.mem_map.mp m
    exact hp _ (h.sub k (pk.mem_iff.mp hk))
  · obtain ⟨k, hk, rfl⟩ := List.mem_map.mp m
    have mk := pk.mem_iff.mp hk
    cases e : getF fs k with
    | none => exact absurd mk (getF_none.mp e)
    | some v =>
      exact hv k v e
/-! ### the same result -/
theorem Fold.perm {ys ks : List Str} (h : Fold ys) (pm : ks.Perm ys) : Fold ks := ⟨by rw [pm.length_eq]; exact h.lo, by rw [pm.length_eq]; exact h.hi, pm.nodup_iff.mpr h.nd, fun y hy => h.nm y (pm.mem_iff.mp hy)⟩
theorem res_dx {K : PySem.W.Frag} {H0 H : Hp} {j d : Addr} {ks : List Str} {ad : Str → Addr} {G : Str → Fs} {o : HO} (h : ResAt H0 H d ks ad G) (hj : H0 j = some o) : Dx K H j (.ref d) (conD ks G) :=
  con_dx h.at_ h.files (fun e => by have := h.fd; rw [e, hj] at this; cases this) fun y hy e => by have := h.fr y hy; rw [e, hj] at this; cases this
theorem res_eq {PT ys ks : List Str} {cs : List Cp} {F F' G G' : Str → Fs} (A' : AllOk PT ys F') (A : AllOk PT ys F) (hc : ∀ c ∈ cs, CpOk ys c) (pm : ks.Perm ys) (e : ∀ y ∈ ys, EqF (F' y) (F y)) (s : ∀ y ∈ ks, IsSrt (runF cs F' y) (G y)) (s' : ∀ y ∈ ks, IsSrt (runL cs F y) (G' y)) : conD ks G = conD ks G' :=
  conD_eq fun y hy => srt_one (allok_runF A' hc y (pm.mem_iff.mp hy)) (allok_runL A hc y (pm.mem_iff.mp hy)) (eq_run A' A hc e y (pm.mem_iff.mp hy)) (s y hy) (s' y hy)
theorem fine_of {p0 : Str} {PT : List Str} {fs : Fs} (h : FOk PT fs) (p40 : PT.length ≤ 40) (hp : ∀ p ∈ PT, IsPt p) (hv : ∀ k v, getF fs k = some v → Vt p0 k v) : Fine p0 fs :=
  ⟨⟨h.nd, Nat.le_trans h.len p40, fun p m => hp _ (h.sub _ (List.mem_map.mpr ⟨p, m, rfl⟩))⟩, fun p m => hv _ _ (get_mem h.nd m)⟩
theorem valV_out : ∀ {l : List (Key × V)} {k : Key}, k ∉ l.map (·.1) → valV l k = none
  | [], _, _ => rfl
  | p :: l, k, h => by
    obtain ⟨k2, v⟩ := p
    rw [valV_neg (fun z => h (List.mem_cons.mpr (.inl z.symm)))]
    exact valV_out fun m => h (List.mem_cons_of_mem _ m)
theorem merge_nd : ∀ (m l : List (Key × V)), ((l ++ m).map (·.1)).Nodup → mergeK l m = l ++ m
  | [], l, _ => (List.append_nil l).symm
  | p :: m, l, h => by
    obtain ⟨k, v⟩ := p
    have nk : k ∉ l.map (·.1) := fun z => by
      rw [List.map_append] at h
      exact (List.nodup_append.mp h).2.2 k z k List.mem_cons_self rfl
    show mergeK (putK l k v) m = _
    rw [putK_new _ (valV_out nk), merge_nd m (l ++ [(k, v)]) (by rw [List.append_assoc]; exact h), List.append_assoc]
    rfl
theorem eq_files {K : PySem.W.Frag} {H : Hp} {a b : Addr} {fs : Fs} (ha : H a = some (.dK (kvF fs))) (hb : H b = some (.dK (kvF fs))) (nd : (fs.map (·.1)).Nodup) : EqV K H 2 (.ref a) (.ref b) := by
  refine .inr (.inr (.inr ⟨a, b, kvF fs, kvF fs, rfl, rfl, ha, hb, rfl, fun p hp => ?_⟩))
  obtain ⟨z, hz, rfl⟩ := List.mem_map.mp hp
  refine ⟨.str z.2, ?_, .inl ⟨rfl, rfl⟩⟩
  rw [kvF_val, get_mem nd hz]
  rfl
theorem eq_con {K : PySem.W.Frag} {H : Hp} {d e : Addr} {ks : List Str} {ad ad' : Str → Addr} {F : Str → Fs} (hd : H d = some (.dK (kvR ks ad))) (he : H e = some (.dK (kvR ks ad'))) (h1 : ∀ y ∈ ks, H (ad y) = some (.dK (kvF (F y)))) (h2 : ∀ y ∈ ks, H (ad' y) = some (.dK (kvF (F y))))
    (nd : ∀ y ∈ ks, ((F y).map (·.1)).Nodup) : EqR K H (EqV K H 2) (.ref d) (.ref e) := by
  refine .inr ⟨d, e, _, _, rfl, rfl, hd, he, by rw [List.length_map, List.length_map], fun p hp => ?_⟩
  obtain ⟨y, hy, rfl⟩ := List.mem_map.mp hp
  exact ⟨_, kv_val hy, eq_files (h1 y hy) (h2 y hy) (nd y hy)⟩
/-! ### the contents at the end -/
def nA : Str := Str.ofString "a"
def nB : Str := Str.ofString "b"
def nC : Str := Str.ofString "c"
def pX : Str := Str.ofString "x"
def pY : Str := Str.ofString "y"
def t1 : Str := Str.ofString "1"
def t2 : Str := Str.ofString "2"
def t3 : Str := Str.ofString "3"
def abc3 : List Str := [nA, nB, nC]
def ad3 (u v w : Addr) : Str → Addr := fun y => if y = nA then u else if y = nB then v else w
def F3 (u v w : Fs) : Str → Fs := fun y => if y = nA then u else if y = nB then v else w
theorem nBA : nB ≠ nA := by decide +kernel
theorem nCA : nC ≠ nA := by decide +kernel
theorem nCB : nC ≠ nB := by decide +kernel
theorem F3_all {Pr : Str → Fs → Prop} {u v w : Fs} (ha : Pr nA u) (hb : Pr nB v) (hc : Pr nC w) : ∀ y ∈ abc3, Pr y (F3 u v w y) := fun y hy => by
  have h : y = nA ∨ y = nB ∨ y = nC := by simpa [abc3] using hy
  unfold F3
  rcases h with rfl | rfl | rfl
  · rw [if_pos rfl]; exact ha
  · rw [if_neg nBA, if_pos rfl]; exact hb
  · rw [if_neg nCA, if_neg nCB]; exact hc
theorem con3 {H : Hp} {c u v w : Addr} {f g h : Fs} (hc : H c = some (.dK [(.inr nA, .ref u), (.inr nB, .ref v), (.inr nC, .ref w)])) (hu : H u = some (.dK (kvF f))) (hv : H v = some (.dK (kvF g))) (hw : H w = some (.dK (kvF h))) (n1 : u ≠ c) (n2 : v ≠ c) (n3 : w ≠ c) :
    ConAt H c abc3 (ad3 u v w) (F3 f g h) := by
  have key : ∀ y ∈ abc3, H (ad3 u v w y) = some (.dK (kvF (F3 f g h y))) ∧ ad3 u v w y ≠ c := fun y hy => by
    have e : y = nA ∨ y = nB ∨ y = nC := by simpa [abc3] using hy
    unfold F3 ad3
    rcases e with rfl | rfl | rfl
    · rw [if_pos rfl, if_pos rfl]; exact ⟨hu, n1⟩
    · rw [if_neg nBA, if_pos rfl, if_neg nBA, if_pos rfl]; exact ⟨hv, n2⟩
    · rw [if_neg nCA, if_neg nCB, if_neg nCA, if_neg nCB]; exact ⟨hw, n3⟩
  refine ⟨?_, fun y hy => (key y hy).1, fun y hy => (key y hy).2⟩
  rw [hc]
  show _ = some (HO.dK [(Sum.inr nA, V.ref (if nA = nA then u else _)), (Sum.inr nB, V.ref (if nB = nA then u else if nB = nB then v else _)), (Sum.inr nC, V.ref (if nC = nA then u else if nC = nB then v else w))])
  rw [if_pos rfl, if_neg nBA, if_pos rfl, if_neg nCA, if_neg nCB]
def plan3 : List Cp := [(Str.ofString "over", nA, nC), (Str.ofString "over", nB, nA), (Str.ofString "over", nC, nB)]
theorem fold3 : Fold abc3 := ⟨by decide, by decide, by decide +kernel, by unfold abc3 IsNm; decide +kernel⟩
theorem scr3 : Scr abc3 plan3 := by
  refine ⟨by decide, fun c hc => ?_⟩
  have e : c = (Str.ofString "over", nA, nC) ∨ c = (Str.ofString "over", nB, nA) ∨ c = (Str.ofString "over", nC, nB) := by simpa [plan3] using hc
  rcases e with rfl | rfl | rfl
  · exact ⟨.inl rfl, by decide +kernel, by decide +kernel, by decide +kernel⟩
  · exact ⟨.inl rfl, by decide +kernel, by decide +kernel, by decide +kernel⟩
  · exact ⟨.inl rfl, by decide +kernel, by decide +kernel, by decide +kernel⟩
theorem ptX : IsPt pX := by unfold IsPt; decide +kernel
theorem ptY : IsPt pY := by unfold IsPt; decide +kernel
theorem ok1 (t : Str) : FilesOk [(pX, t)] := ⟨by show [pX].Nodup; decide +kernel, by show 1 ≤ 40; decide, fun p hp => by rw [List.mem_singleton.mp hp]; exact ptX⟩
theorem ok2 (t u : Str) : FilesOk [(pX, t), (pY, u)] := ⟨by show [pX, pY].Nodup; decide +kernel, by show 2 ≤ 40; decide, fun p hp => by
  rcases List.mem_cons.mp hp with rfl | hp
  · exact ptX
  · rw [List.mem_singleton.mp hp]; exact ptY⟩
theorem fok3 {fs : Fs} (h : FilesOk fs) (s : ∀ k ∈ fs.map (·.1), k ∈ [pX, pY]) : FOk [pX, pY] fs := ⟨h.nd, s⟩
abbrev C3 : Str → Fs := F3 [(pX, t1)] [(pX, t2), (pY, t3)] []
abbrev E3 : Str → Fs := F3 [(pX, t2), (pY, t3)] [(pX, t1), (pY, t3)] [(pX, t1)]
theorem con_ok3 : ConOk abc3 C3 := ⟨fold3, F3_all (Pr := fun _ fs => FilesOk fs) (ok1 _) (ok2 _ _) ⟨List.nodup_nil, by decide, fun _ h => nomatch h⟩⟩
theorem all_ok3 : AllOk [pX, pY] abc3 C3 := F3_all (Pr := fun _ fs => FOk [pX, pY] fs) (fok3 (ok1 _) (by show ∀ k ∈ [pX], _; decide +kernel)) (fok3 (ok2 _ _) (by show ∀ k ∈ [pX, pY], _; decide +kernel)) (fok_nil _)
theorem exp3 : ∀ y ∈ abc3, IsSrt (runF plan3 C3 y) (E3 y) := by
  refine F3_all (Pr := fun y fs => IsSrt (runF plan3 C3 y) fs) ⟨[pX, pY], by decide +kernel, by decide +kernel, by decide +kernel⟩ ⟨[pX, pY], by decide +kernel, by decide +kernel, by decide +kernel⟩ ⟨[pX], by decide +kernel, by decide +kernel, by decide +kernel⟩
theorem srt3 : sortedS abc3 = true := by decide +kernel
theorem nd3 : ∀ y ∈ abc3, ((E3 y).map (·.1)).Nodup := F3_all (Pr := fun _ fs => (fs.map (·.1)).Nodup) (ok2 _ _).nd (ok2 _ _).nd (ok1 _).nd
end Cv

/-! part K08B -/
set_option maxRecDepth 100000
set_option maxHeartbeats 4000000
namespace Cv
open PySem PySem.Spec PyProof.Rows L2
def spJar (K : PySem.W.Frag) : Sp := fun vs H Q _ => ∃ (a : Addr) (ns : List Int) (k : Int), vs = [.ref a, .int k] ∧ SqL K H a (ns.map V.int) ∧ ns.length ≤ 63 ∧ 0 ≤ k ∧ k ≤ 100 ∧
  ∀ (p : Addr) (l : List V), JarL l 0 → H p = none → Q (.ref p) (upd H p (.lst l))
section
variable {P : Program} {w : World} {K : PySem.W.Frag} {mg : Str → Option Value} {base : Heap}
theorem scJ : FnScope ["cells", "k", "cell"] ["cells", "k"] (defScope sJar) := ⟨rfl, rfl, rfl, by decide +kernel, rfl, by decide +kernel, by decide +kernel⟩
theorem p38 : (0 : Int) < 10 ^ (38 : Int).toNat + 133 := by decide
theorem e38 : (10 : Int) ^ (38 : Int).toNat + 133 ≤ 10 ^ 39 := by decide
theorem atI_lt {ns : List Int} {i : Int} (h0 : 0 ≤ i) (h : i < ns.length) : ∃ z, atI (ns.map V.int) i = some (V.int z) := by
  obtain ⟨m, rfl⟩ : ∃ m : Nat, i = (m : Int) := ⟨i.toNat, by omega⟩
  have hm : m < ns.length := by omega
  exact ⟨ns[m], atI_nat (by rw [List.getElem?_map, List.getElem?_eq_getElem hm]; rfl)⟩
theorem ok_jar {f : Addr} {fd : FuncData} (F : Fun K "_law_jar" "_law_jar" sJar f fd) (B : Bl mg) : FnOk P w K mg base CX0 1 f fd ["cells", "k"] (spJar K) := by
  refine F.ok scJ (fun vs H Q E h => ?_) (fun cdv A outer s H vs Q E hr h => ?_)
  · obtain ⟨a, ns, k, rfl, _⟩ := h
    rfl
  · obtain ⟨a, ns, k, rfl, ha, hl, hk0, hk, q⟩ := h
    refine ⟨_, pss_cons (ps_set (i := 2) scJ.nd rfl (.inl rfl) (pe_ifExp (pt_cmpR op_lt (pv 1) (pe_callB call_len_seq (by rfl) B.len PySem.boot_len (pa_cons (pv 0) pa_nil)) (nomark _)) (pe_ix ix_list (pv 0) (pv 1) (fun _ _ => rfl)) pe_int))
      (pss_one (ps_ret (pe_lst (pa_cons (pe_callB (call_max2 rfl) (by rfl) B.max (by decide +kernel) (pa_cons pe_int (pa_cons (pe_op op_sub (pe_callB call_abs (by rfl) B.abs (by decide +kernel) (pa_cons (pv 2) pa_nil)) (pe_op op_pow pe_int pe_int)) pa_nil)))
        (pa_cons (pe_op op_mod (pe_op op_add (pe_op op_add (pe_op op_mul (pv 2) pe_int) (pe_op op_mul pe_int (pv 1))) pe_int) (pe_op op_add (pe_op op_pow pe_int pe_int) pe_int)) (pa_cons pe_int pa_nil)))))), ?_⟩
    refine ⟨_, rfl, .ref a, rfl, a, _, rfl, .inl ha, _, _, rfl, rfl, _, rfl, ite2 (fun c => ?_) (fun c => ?_)⟩
    · have c' : k < ((ns.map V.int).length : Int) := of_decide_eq_true c
      rw [List.length_map] at c'
      obtain ⟨z, hz⟩ := atI_lt hk0 c'
      refine ⟨_, rfl, _, rfl, a, _, _, _, rfl, rfl, ha, hz, ?_⟩
      refine ⟨.int z, rfl, z, rfl, 10, 18, rfl, rfl, ⟨by decide, by decide, by decide⟩, _, _, rfl, rfl, 0, _, rfl, ?_⟩
      refine ⟨_, rfl, z, 83, rfl, rfl, .inr ⟨by decide, by decide⟩, _, rfl, 19, k, rfl, rfl, .inl ⟨by decide, by decide⟩, _, _, rfl, rfl, _, 11, rfl, rfl, ?_⟩
      refine ⟨10, 38, rfl, rfl, ⟨by decide, by decide, by decide⟩, _, 133, rfl, rfl, _, _, rfl, rfl, p38, by show 3 ≤ sizeLine; decide, fun p np => ?_⟩
      exact q p _ ⟨_, _, 0, rfl, by split <;> omega, Int.emod_nonneg _ (by decide), Int.lt_of_lt_of_le (Int.emod_lt_of_pos _ p38) e38, by decide, by decide⟩ np
    · refine ⟨.int 0, rfl, 0, rfl, 10, 18, rfl, rfl, ⟨by decide, by decide, by decide⟩, _, _, rfl, rfl, 0, _, rfl, ?_⟩
      refine ⟨_, rfl, 0, 83, rfl, rfl, .inr ⟨by decide, by decide⟩, _, rfl, 19, k, rfl, rfl, .inl ⟨by decide, by decide⟩, _, _, rfl, rfl, _, 11, rfl, rfl, ?_⟩
      refine ⟨10, 38, rfl, rfl, ⟨by decide, by decide, by decide⟩, _, 133, rfl, rfl, _, _, rfl, rfl, p38, by show 3 ≤ sizeLine; decide, fun p np => ?_⟩
      exact q p _ ⟨_, _, 0, rfl, by split <;> omega, Int.emod_nonneg _ (by decide), Int.lt_of_lt_of_le (Int.emod_lt_of_pos _ p38) e38, by decide, by decide⟩ np
end
end Cv


/-! part K08L -/
set_option maxRecDepth 100000
set_option maxHeartbeats 4000000
namespace Cv
open PySem PySem.Spec PyProof.Rows L2
def kRev : {α : Type} → List α → List α := fun l => l.reverse
def spLaw (K : PySem.W.Frag) : Sp := fun vs H Q _ => ∃ (a : Addr) (ns : List Int), vs = [.ref a] ∧ SqL K H a (ns.map V.int) ∧ ns.length ≤ 63 ∧ ∀ H', Q (.bl true) H'
abbrev NL : List Str := ["script", "k", "jar", "is_great", "turn", "names_here", "contents_here", "plan", "files", "path_here", "kept", "due", "told", "one"]
theorem scLw : FnScope NL ["script"] (defScope sLaw) := ⟨rfl, rfl, rfl, by decide +kernel, rfl, by decide +kernel, by decide +kernel⟩
theorem plan_all {K : PySem.W.Frag} {H H' : Hp} {j : Addr} (h : ∀ a xs, SqT K H a xs → SqT K H' a xs) : ∀ {cs : List Cp} {vs : List V}, DxAll K H j vs (cs.map cpD) → DxAll K H' j vs (cs.map cpD)
  | [], _, d => by
    cases d
    exact .nil
  | c :: cs, vs, d => by
    cases vs with
    | nil => cases d
    | cons v vs =>
      have d2 : DxAll K H j (v :: vs) (cpD c :: cs.map cpD) := d
      cases d2 with
      | cons d1 t =>
        obtain ⟨a, rfl, n, s⟩ := cp_inv d1
        exact .cons (.tup n (h _ _ s) (str_dx c)) (plan_all h t)
theorem plan_keep {K : PySem.W.Frag} {H H' : Hp} {j p : Addr} {cs : List Cp} (h : ∀ a xs, SqT K H a xs → SqT K H' a xs) (d : Dx K H j (.ref p) (planD cs)) : Dx K H' j (.ref p) (planD cs) := by
  obtain ⟨n, xs, s, t⟩ := tup_inv d
  exact .tup n (h _ _ s) (plan_all h t)
theorem int_if {σ : L2.St} {H : Hp} {k0 : V → Hp → Prop} {g : Bool} (h : ∀ T : Int, 0 ≤ T → T ≤ 3 → k0 (.int T) H) : if g = true then tC (.int 1) σ H k0 else tC (.int 3) σ H k0 := by
  cases g
  · exact h 3 (by decide) (by decide)
  · exact h 1 (by decide) (by decide)
section
variable {P : Program} {w : World} {K : PySem.W.Frag} {mg : Str → Option Value} {base : Heap}
theorem ok_law {f : Addr} {fd : FuncData} (F : Fun K "law" "law" sLaw f fd) (B : Bl mg)
    (DJ : Has P w K mg base CX0 1 "_law_jar" ["cells", "k"] (spJar K)) (DD : Has P w K mg base CX0 1 "_law_dip" ["jar", "many"] spDip) (DN : Has P w K mg base CX0 2 "_law_names" ["jar", "many"] spNames)
    (DP : Has P w K mg base CX0 2 "_law_plan" ["jar", "names_here", "most"] (spPlan K)) (DC : Has P w K mg base CX0 3 "_law_contents" ["jar", "names_here", "most"] (spLC K))
    (DLR : Has P w K mg base CX0 1 "_law_run" ["contents_here", "plan"] (spLRun K)) (DT : Has P w K mg base CX0 1 "_law_turned" ["contents_here"] spTurn)
    (DR : Has P w K mg base CX0 5 "run" ["contents", "copies"] (spRun K)) (KR : HasK P w K mg base CX0 5 "run" ["contents", "copies"] ["copies", "contents"] kRev (spRun K)) :
    FnG P w K mg base CX0 6 f fd ["script"] (spLaw K) := by
  refine fun_gd F scLw (fun vs H Q E h => ?_) (fun cdv A outer s H vs Q E gA hr h => ?_)
  · obtain ⟨a, ns, rfl, _⟩ := h
    rfl
  · obtain ⟨a, ns, rfl, hS, hl, q⟩ := h
    refine ⟨_, pss_cons (ps_for PassesOwn.never rfl (pi_range1 (by rfl) B.range (pa_cons (pe_callB (call_max2 rfl) (by rfl) B.max (by decide +kernel) (pa_cons pe_int (pa_cons (pe_callB (call_min2 rfl) (by rfl) B.min (by decide +kernel)
            (pa_cons pe_int (pa_cons (pe_callB call_len_seq (by rfl) B.len PySem.boot_len (pa_cons (pv 0) pa_nil)) pa_nil))) pa_nil))) pa_nil)) (pg_name (i := 1) scLw.nd rfl (.inl rfl))
        (pss_cons (ps_set (i := 2) scLw.nd rfl (.inl rfl) (pe_has DJ hr pass0 (pa_cons (pv 0) (pa_cons (pv 1) pa_nil))))
        (C8.pss_cut (ps_set (i := 3) scLw.nd rfl (.inl rfl) (pe_and (pe_cmpR op_eq (pv 1) pe_int (nomark _)) (pe_one (pe_cmpR (op_neL (hu_of' hr)) (pv 0) (pe_lst pa_nil) (nomark _)))))
        (pss_one (ps_for PassesOwn.never rfl (pi_range1 (by rfl) B.range (pa_cons (pe_ifExp (pt_val (pv 3)) pe_int pe_int) pa_nil)) (pg_name (i := 4) scLw.nd rfl (.inl rfl))
          (pss_cons (ps_set (i := 5) scLw.nd rfl (.inl rfl) (pe_has DN hr pass0 (pa_cons (pv 2) (pa_cons (pe_ix ix_list (pe_lst (pa_cons (pe_op op_add pe_int (pe_has DD hr pass0 (pa_cons (pv 2) (pa_cons pe_int pa_nil)))) (pa_cons pe_int pa_nil))) (pe_callTy call_int1 (by rfl) B.int (by decide +kernel) (pa_cons (pv 3) pa_nil)) (fun _ _ => rfl)) pa_nil))))
          (pss_cons (ps_set (i := 6) scLw.nd rfl (.inl rfl) (pe_has DC hr pass0 (pa_cons (pv 2) (pa_cons (pv 5) (pa_cons (pe_ix ix_list (pe_lst (pa_cons pe_int (pa_cons pe_int pa_nil))) (pe_callTy call_int1 (by rfl) B.int (by decide +kernel) (pa_cons (pv 3) pa_nil)) (fun _ _ => rfl)) pa_nil)))))
          (pss_cons (ps_set (i := 7) scLw.nd rfl (.inl rfl) (pe_has DP hr pass0 (pa_cons (pv 2) (pa_cons (pv 5) (pa_cons (pe_ix ix_list (pe_lst (pa_cons pe_int (pa_cons pe_int pa_nil))) (pe_callTy call_int1 (by rfl) B.int (by decide +kernel) (pa_cons (pv 3) pa_nil)) (fun _ _ => rfl)) pa_nil)))))
          (pss_cons (ps_set (i := 8) scLw.nd rfl (.inl rfl) (pe_dget (hu1 hr) (pv 6) (pe_ix ix_tup (pv 5) pe_int (fun _ _ => rfl)) (fun _ _ => rfl)))
          (pss_cons (ps_for PassesOwn.never rfl (pi_list (pe_slice sl_list (pe_callTy (call_listD rfl) (by rfl) B.list (by decide +kernel) (pa_cons (pv 8) pa_nil)) po_none (po_some pe_int))) (pg_name (i := 9) scLw.nd rfl (.inl rfl))
            (pss_one (ps_dput (hu1 hr) (pv 8) (pv 9) (pe_op op_mulS pe_str pe_int) rfl)))
          (pss_cons (ps_par (i := 10) (j := 11) rfl scLw.nd rfl rfl (by decide) rfl rfl (pa_cons (pe_callB (call_reprX (hu64 hr) gA) (by rfl) B.repr (by decide +kernel) (pa_cons (pe_lst (pa_cons (pv 6) (pa_cons (pv 7) pa_nil))) pa_nil)) (pa_cons (pe_has DLR hr pass0 (pa_cons (pv 6) (pa_cons (pv 7) pa_nil))) pa_nil)) rfl)
          (pss_cons (ps_set (i := 12) scLw.nd rfl (.inl rfl) (pe_lst (pa_cons (pe_has DR hr pass0 (pa_cons (pv 6) (pa_cons (pv 7) pa_nil))) (pa_cons (pe_hasK KR hr pass0 (pk_cons (pv 7) (pk_cons (pv 6) pk_nil))) pa_nil))))
          (pss_cons (ps_expr (pe_bm PySem.F.plainAttrs_list PySem.F.slot_list_append PySem.F.type_list_append mt_append (pv 12) (pa_cons (pe_has DR hr pass0 (pa_cons (pe_has DT hr pass0 (pa_cons (pv 6) pa_nil)) (pa_cons (pv 7) pa_nil))) pa_nil)))
          (pss_cons (ps_if (pt_cmpR op_ne (pe_callB (call_reprX (hu64 hr) gA) (by rfl) B.repr (by decide +kernel) (pa_cons (pv 12) pa_nil)) (pe_callB (call_reprX (hu64 hr) gA) (by rfl) B.repr (by decide +kernel) (pa_cons (pe_op op_rep (pe_lst (pa_cons (pv 11) pa_nil)) pe_int) pa_nil)) (nomark _)) (pss_one (ps_ret pe_bl)) pss_nil)
          (pss_cons (ps_lock (ps_for PassesOwn.never rfl (pi_keys (pe_ix ix_list (pv 12) pe_int (fun _ _ => rfl))) (pg_name (i := 13) scLw.nd rfl (.inl rfl))
            (pss_cons (ps_set (i := 8) scLw.nd rfl (.inl rfl) (pe_dget (hu1 hr) (pe_ix ix_list (pv 12) pe_int (fun _ _ => rfl)) (pv 13) (fun _ _ => rfl)))
            (pss_one (ps_dput (hu1 hr) (pv 8) pe_str pe_str rfl)))))
          (pss_one (ps_if (PW.pt (pw_or (pt_cmpR op_ne (pe_callB (call_reprX (hu64 hr) gA) (by rfl) B.repr (by decide +kernel) (pa_cons (pe_has DR hr pass0 (pa_cons (pv 6) (pa_cons (pv 7) pa_nil))) pa_nil)) (pe_callB (call_reprX (hu64 hr) gA) (by rfl) B.repr (by decide +kernel) (pa_cons (pv 11) pa_nil)) (nomark _))
            (pw_or1 (pt_cmpR op_ne (pe_callB (call_reprX (hu64 hr) gA) (by rfl) B.repr (by decide +kernel) (pa_cons (pe_lst (pa_cons (pv 6) (pa_cons (pv 7) pa_nil))) pa_nil)) (pv 10) (nomark _))))) (pss_one (ps_ret pe_bl)) pss_nil)))))))))))))))))
      (pss_cons (ps_set (i := 6) scLw.nd rfl (.inl rfl) (pe_disp (pps_cons pe_str (pe_disp (pps_cons pe_str pe_str pps_nil) (by rfl) (by rfl) (fun z => by cases z) (by decide))
          (pps_cons pe_str (pe_disp (pps_cons pe_str pe_str (pps_cons pe_str pe_str pps_nil)) (by rfl) (by rfl) (fun z => by cases z) (by decide)) (pps_cons pe_str pe_dnewK pps_nil))) (by rfl) (by rfl) (fun z => by cases z) (by decide)))
      (pss_cons (ps_set (i := 12) scLw.nd rfl (.inl rfl) (pe_has DR hr pass0 (pa_cons (pv 6) (pa_cons (pe_tup (pa_cons (pe_tup (pa_cons pe_str (pa_cons pe_str (pa_cons pe_str pa_nil)))) (pa_cons (pe_tup (pa_cons pe_str (pa_cons pe_str (pa_cons pe_str pa_nil)))) (pa_cons (pe_tup (pa_cons pe_str (pa_cons pe_str (pa_cons pe_str pa_nil)))) pa_nil)))) pa_nil))))
      (pss_one (ps_ret (pe_cmpR (op_eqV (hu64 hr)) (pv 12) (pe_disp (pps_cons pe_str (pe_disp (pps_cons pe_str pe_str (pps_cons pe_str pe_str pps_nil)) (by rfl) (by rfl) (fun z => by cases z) (by decide))
          (pps_cons pe_str (pe_disp (pps_cons pe_str pe_str (pps_cons pe_str pe_str pps_nil)) (by rfl) (by rfl) (fun z => by cases z) (by decide)) (pps_cons pe_str (pe_disp (pps_cons pe_str pe_str pps_nil) (by rfl) (by rfl) (fun z => by cases z) (by decide)) pps_nil))) (by rfl) (by rfl) (fun z => by cases z) (by decide)) (nomark _)))))), ?_⟩
    -- READING
    refine ⟨_, rfl, a, _, rfl, .inl hS, 5, _, rfl, 1, _, rfl, ?_⟩
    obtain ⟨T, hT, hT8⟩ : ∃ T : Int, (if (if ((ns.map V.int).length : Int) < 5 then ((ns.map V.int).length : Int) else 5) > 1 then (if ((ns.map V.int).length : Int) < 5 then ((ns.map V.int).length : Int) else 5) else 1) = T ∧ 0 ≤ T ∧ T ≤ 5 :=
      ⟨_, rfl, by omega, by omega⟩
    refine ⟨T, by rw [← hT], by omega, by omega, ?_⟩
    refine for_range (lo := 0) (n := T.toNat) (fun i σ H' => ∃ x1 x2 x3 x4 x5 x6 x7 x8 x9 x10 x11 x12 x13, σ = [some (.ref a), x1, x2, x3, x4, x5, x6, x7, x8, x9, x10, x11, x12, x13] ∧ Same H H') ?_ ?_ ?_
    · exact ⟨none, none, none, none, none, none, none, none, none, none, none, none, none, rfl, Same.refl H⟩
    · rintro i σ H1 hi ⟨x1, x2, x3, x4, x5, x6, x7, x8, x9, x10, x11, x12, x13, rfl, SH⟩
      refine ⟨_, rfl, _, rfl, a, ns, _, rfl, same_l SH hS, hl, by omega, by omega, fun j l0 jl0 nj => ?_⟩
      -- is_great
      refine ⟨fun σ' H' => (∃ g : Bool, σ' = [some (.ref a), some (.int (0 + (i : Int))), some (.ref j), some (.bl g), x4, x5, x6, x7, x8, x9, x10, x11, x12, x13]) ∧ Eff j H1 H' ∧ H' j = some (.lst l0), ?_, ?_⟩
      · refine ⟨_, rfl, rfl, _, rfl, ite2 (fun _ => ?_) (fun _ => ?_)⟩
        · refine ⟨_, rfl, by decide, fun p np => ?_⟩
          have hjp : upd H1 j (.lst l0) j = some (.lst l0) := upd_same
          have e1 : Eff j H1 (upd (upd H1 j (.lst l0)) p (.lst [])) := ((Eff.refl j H1).atj).trans (Eff.same (same_new np))
          have hsc : SqL K (upd (upd H1 j (.lst l0)) p (.lst [])) a (ns.map V.int) := same_l ((SH.trans (same_new nj)).trans (same_new np)) hS
          exact ⟨a, p, _, rfl, rfl, hsc, sqOf upd_same, ⟨_, rfl⟩, e1, (same_new np) _ _ hjp⟩
        · exact ⟨⟨false, rfl⟩, (Eff.refl j H1).atj, upd_same⟩
      rintro σ H2 ⟨⟨gr, rfl⟩, e2, hj2⟩
      have fin : ∀ {H' : Hp}, Eff j H2 H' → Same H H' := fun e b u hb => e b u (fun z => by rw [z] at hb; have := SH _ _ hb; rw [nj] at this; cases this) (e2 b u (fun z => by rw [z] at hb; have := SH _ _ hb; rw [nj] at this; cases this) (SH b u hb))
      -- the turns
      refine ⟨_, rfl, _, rfl, int_if fun T2 t20 t23 => ⟨T2, rfl, by omega, by omega, ?_⟩⟩
      refine for_range (lo := 0) (n := T2.toNat) (fun i' σ H' => ∃ y4 y5 y6 y7 y8 y9 y10 y11 y12 y13 l', σ = [some (.ref a), some (.int (0 + (i : Int))), some (.ref j), some (.bl gr), y4, y5, y6, y7, y8, y9, y10, y11, y12, y13] ∧ Eff j H2 H' ∧ H' j = some (.lst l') ∧ JarL l' (6000 * i'))
        ⟨_, _, _, _, _, _, _, _, _, _, l0, rfl, Eff.refl j H2, hj2, jl0⟩ ?_ ?_
      · rintro i' σ H3 hi' ⟨y4, y5, y6, y7, y8, y9, y10, y11, y12, y13, l1, rfl, e3, hj3, jl3⟩
        -- names_here
        refine ⟨_, rfl, _, rfl, j, l1, 8, 6000 * i', rfl, hj3, jl3, by omega, by decide, by decide, fun r l2 r0 r1 jl4 => ?_⟩
        refine ⟨1, r, rfl, rfl, by show 2 ≤ sizeLine; decide, fun p np => ?_⟩
        have e4 : Eff j H2 (upd (upd H3 j (.lst l2)) p (.lst [.int (1 + r), .int 20])) := e3.atj.trans (Eff.same (same_new np))
        have hj4 : upd (upd H3 j (.lst l2)) p (.lst [.int (1 + r), .int 20]) j = some (.lst l2) := (same_new np) _ _ upd_same
        have hp4 : upd (upd H3 j (.lst l2)) p (.lst [.int (1 + r), .int 20]) p = some (.lst [.int (1 + r), .int 20]) := upd_same
        generalize upd (upd H3 j (.lst l2)) p (.lst [.int (1 + r), .int 20]) = H4 at e4 hj4 hp4 ⊢
        obtain ⟨m, hm, m0, m1⟩ : ∃ m : Int, atI [V.int (1 + r), V.int 20] (if gr = true then 1 else 0) = some (.int m) ∧ 1 ≤ m ∧ m ≤ 20 := by
          cases gr
          · exact ⟨_, rfl, by omega, by omega⟩
          · exact ⟨_, rfl, by decide, by decide⟩
        refine ⟨_, rfl, .inr ⟨_, rfl, p, _, _, _, rfl, rfl, sqOf hp4, hm, ?_⟩⟩
        refine ⟨j, l2, m, 6000 * i' + 1, rfl, hj4, jl4, by omega, m0, m1, fun a2 ys l3 H5 N ha5 hj5 jl5 e5 => ?_⟩
        have a2j : a2 ≠ j := fun z => by rw [z, hj5] at ha5; cases ha5
        have FO : Fold ys := ⟨by have := N.1; omega, by have := N.1; omega, N.2.1, N.2.2.1⟩
        have e25 := e4.trans e5
        -- contents_here
        refine ⟨_, rfl, _, rfl, by show 2 ≤ sizeLine; decide, fun p6 np6 => ?_⟩
        have e6 : Same H5 (upd H5 p6 (.lst [.int 10, .int 40])) := same_new np6
        have hp6 : upd H5 p6 (.lst [.int 10, .int 40]) p6 = some (.lst [.int 10, .int 40]) := upd_same
        have ha6 := e6 _ _ ha5
        have hj6 := e6 _ _ hj5
        have e26 := e25.trans (Eff.same (j := j) e6)
        generalize upd H5 p6 (.lst [.int 10, .int 40]) = H6 at hp6 ha6 hj6 e26 ⊢
        obtain ⟨mo, hmo, mo0, mo1⟩ : ∃ mo : Int, atI [V.int 10, V.int 40] (if gr = true then 1 else 0) = some (.int mo) ∧ 1 ≤ mo ∧ mo ≤ 40 := by
          cases gr
          · exact ⟨_, rfl, by omega, by omega⟩
          · exact ⟨_, rfl, by decide, by decide⟩
        refine ⟨_, rfl, .inr ⟨_, rfl, p6, _, _, _, rfl, rfl, sqOf hp6, hmo, ?_⟩⟩
        refine ⟨j, a2, l3, mo, 6000 * i' + 201, ys, rfl, hj6, jl5, by omega, stOf ha6, a2j, FO, mo0, mo1, fun c PT ad FF l4 H7 lPT hPT AO TX CA dj fc fad hj7 jl7 e7 => ?_⟩
        have ha7 := e7 _ _ a2j ha6
        have e27 := e26.trans e7
        have cj : c ≠ j := fun z => by rw [z, hj6] at fc; cases fc
        have adj : ∀ y ∈ ys, ad y ≠ j := fun y hy z => by have := fad y hy; rw [z, hj6] at this; cases this
        -- plan
        refine ⟨_, rfl, _, rfl, by show 2 ≤ sizeLine; decide, fun p8 np8 => ?_⟩
        have e8 : Same H7 (upd H7 p8 (.lst [.int 40, .int 200])) := same_new np8
        have hp8 : upd H7 p8 (.lst [.int 40, .int 200]) p8 = some (.lst [.int 40, .int 200]) := upd_same
        have ha8 := e8 _ _ ha7
        have hj8 := e8 _ _ hj7
        have CA8 := CA.same e8
        have e28 := e27.trans (Eff.same (j := j) e8)
        generalize upd H7 p8 (.lst [.int 40, .int 200]) = H8 at hp8 ha8 hj8 CA8 e28 ⊢
        obtain ⟨mp, hmp, mp0, mp1⟩ : ∃ mp : Int, atI [V.int 40, V.int 200] (if gr = true then 1 else 0) = some (.int mp) ∧ 0 ≤ mp ∧ mp ≤ 200 := by
          cases gr
          · exact ⟨_, rfl, by omega, by omega⟩
          · exact ⟨_, rfl, by decide, by decide⟩
        refine ⟨_, rfl, .inr ⟨_, rfl, p8, _, _, _, rfl, rfl, sqOf hp8, hmp, ?_⟩⟩
        refine ⟨j, a2, l4, mp, 6000 * i' + 3201, ys, rfl, hj8, jl7, by omega, stOf ha8, a2j, FO.lo, FO.hi, FO.nd, mp0, mp1, fun p cs l5 H9 PL Dp hj9 jl9 e9 => ?_⟩
        have SC : Scr ys cs := ⟨by have := PL.l; omega, PL.c⟩
        have ha9 := e9 _ _ a2j ha8
        have CA9 : ConAt H9 c ys ad FF := ⟨e9 _ _ cj CA8.at_, fun y hy => e9 _ _ (adj y hy) (CA8.files y hy), CA8.ne⟩
        have e29 := e28.trans e9
        have fc2 : ∀ y ∈ ys, H2 (ad y) = none := fun y hy => e26.free (adj y hy) (fad y hy)
        -- one long text
        have y0 : 0 < ys.length := FO.lo
        obtain ⟨u0, hu0⟩ : ∃ u, ys[0]? = some u := ⟨ys[0], List.getElem?_eq_getElem y0⟩
        have mu := List.mem_of_getElem? hu0
        have g0 : DGet H9 c (.str u0) (some (.ref (ad u0))) := kv_val (ad := ad) mu ▸ DGet.k (k := .inr u0) CA9.at_
        refine ⟨_, rfl, _, rfl, a2, _, ((0 : Nat) : Int), _, rfl, rfl, stOf ha9, atI_nat (by rw [List.getElem?_map, hu0]; rfl), c, _, rfl, g0, ?_⟩
        refine ⟨_, rfl, ad u0, kvF (FF u0), rfl, .inl (CA9.files u0 mu), fun q9 n9 => ?_⟩
        have e10 : Same H9 (upd H9 q9 (.lst ((kvF (FF u0)).map fun kv => kV kv.1))) := same_new n9
        have hq9 : upd H9 q9 (.lst ((kvF (FF u0)).map fun kv => kV kv.1)) q9 = some (.lst ((kvF (FF u0)).map fun kv => kV kv.1)) := upd_same
        generalize upd H9 q9 (.lst ((kvF (FF u0)).map fun kv => kV kv.1)) = H10 at e10 hq9 ⊢
        refine np_in ⟨_, rfl, q9, _, rfl, sqOf hq9, fun q10 n10 => ?_⟩
        rw [show (1 : Int) = ((1 : Nat) : Int) from rfl, cutV_nat]
        have e11 : Same H10 (upd H10 q10 (.lst (((kvF (FF u0)).map fun kv => kV kv.1).take 1))) := same_new n10
        have hq10 : upd H10 q10 (.lst (((kvF (FF u0)).map fun kv => kV kv.1).take 1)) q10 = some (.lst (((kvF (FF u0)).map fun kv => kV kv.1).take 1)) := upd_same
        have e911 := e10.trans e11
        have qa : q10 ≠ ad u0 := fun z => by have := e10 _ _ (CA9.files u0 mu); rw [← z, n10] at this; cases this
        refine ⟨q10, rfl, ⟨_, sqOf hq10⟩, ?_⟩
        generalize upd H10 q10 (.lst (((kvF (FF u0)).map fun kv => kV kv.1).take 1)) = H11 at e911 hq10 ⊢
        refine for_list (xs := ((kvF (FF u0)).map fun kv => kV kv.1).take 1) (fun k σ H' => (∃ y9, σ = [some (.ref a), some (.int (0 + (i : Int))), some (.ref j), some (.bl gr), some (.int (0 + (i' : Int))), some (.ref a2), some (.ref c), some (.ref p), some (.ref (ad u0)), y9, y10, y11, y12, y13]) ∧
          (∃ F' p0, (k = 0 → F' = FF) ∧ ConAt H' c ys ad F' ∧ AllOk PT ys F' ∧ Src (Vt p0) ys F') ∧ ∀ b o, b ≠ ad u0 → H11 b = some o → H' b = some o) ?_ (fun k σ H' _ h => sqOf (h.2.2 _ _ qa hq10)) ?_ ?_
        · refine ⟨⟨_, rfl⟩, ⟨FF, Str.empty, fun _ => rfl, CA9.same e911, AO, fun y hy k v e => ?_⟩, fun b o _ e => e⟩
          have tx := TX y hy _ (get_in e)
          exact ⟨Nat.le_trans tx.1 (by decide), tx.2, fun _ => tx.1⟩
        · rintro k x σ H12 hx ⟨⟨y9, rfl⟩, ⟨F', p0, k0, CAk, AOk, SRk⟩, oth⟩
          have hk : k = 0 := by
            have := (List.getElem?_eq_some_iff.mp hx).1
            rw [List.length_take] at this
            omega
          subst hk
          obtain rfl := k0 rfl
          rw [List.getElem?_take_of_lt (by decide), List.map_map, List.getElem?_map] at hx
          obtain ⟨z, hz, rfl⟩ : ∃ z, (F' u0)[0]? = some z ∧ x = .str z.1 := by
            cases h : (F' u0)[0]? with
            | none => rw [h] at hx; cases hx
            | some z => rw [h] at hx; cases hx; exact ⟨z, rfl, rfl⟩
          have mz := List.mem_of_getElem? hz
          have mk : z.1 ∈ (F' u0).map (·.1) := List.mem_map.mpr ⟨z, mz, rfl⟩
          have ou := AOk u0 mu
          refine ⟨Str.ofString "~", 3000, rfl, rfl, by decide, by decide, by decide +kernel, by decide +kernel, ?_⟩
          have bl : (repS (Str.ofString "~") 3000).length ≤ 3000 := by
            rw [repS_len, show (Str.ofString "~").length = 1 by decide +kernel]
            decide
          have bc : ∀ c ∈ (repS (Str.ofString "~") 3000).cps.toList, c < 1000 := fun c hc => by
            have h2 := repS_mem hc
            have key : ∀ c ∈ (Str.ofString "~").cps.toList, c < 1000 := by decide +kernel
            exact key c h2
          generalize repS (Str.ofString "~") 3000 = big at bl bc ⊢
          refine ⟨_, rfl, _, rfl, ad u0, _, rfl, DPut.k (k := .inr z.1) (CAk.files u0 mu) (by rw [List.length_map]; exact small1000 (by have := ou.len; omega)), ?_⟩
          rw [kvF_put ou.nd]
          refine ⟨⟨_, rfl⟩, ⟨upF F' u0 (setF (F' u0) z.1 big), z.1, (fun h => by cases h), ⟨(upd_ne (CAk.ne u0 mu).symm).trans CAk.at_, fun y hy => ?_, CAk.ne⟩, allok_up AOk (ou.set (ou.sub _ mk)), fun y hy k v e => ?_⟩, fun b o n e => (upd_ne n).trans (oth b o n e)⟩
          · show upd H12 (ad u0) _ (ad y) = some (.dK (kvF (if y = u0 then setF (F' u0) z.1 big else F' y)))
            by_cases e : y = u0
            · rw [if_pos e, e, upd_same]
            · rw [if_neg e, upd_ne (fun h => e (dj _ hy _ mu h))]
              exact CAk.files y hy
          · have e2 : getF (if y = u0 then setF (F' u0) z.1 big else F' y) k = some v := e
            have old : ∀ y ∈ ys, getF (F' y) k = some v → Vt z.1 k v := fun y hy e => by
              have tx := TX y hy _ (get_in e)
              exact ⟨Nat.le_trans tx.1 (by decide), tx.2, fun _ => tx.1⟩
            by_cases h : y = u0
            · rw [if_pos h, getF_set] at e2
              by_cases h2 : z.1 = k
              · rw [if_pos h2] at e2
                rw [← Option.some.inj e2]
                exact ⟨bl, bc, fun n => absurd h2.symm n⟩
              · rw [if_neg h2] at e2
                exact old u0 mu e2
            · rw [if_neg h] at e2
              exact old y hy e2
        rintro σ H12 ⟨⟨y9, rfl⟩, ⟨F', p0, _, CA12, AO12, SR⟩, oth⟩
        have au : ad u0 ≠ j := adj u0 mu
        have e212 : Eff j H2 H12 := fun b o n e => oth b o (fun z => by rw [z, fc2 u0 mu] at e; cases e) (e911 _ _ (e29 b o n e))
        have hj12 : H12 j = some (.lst l5) := oth _ _ au.symm (e911 _ _ hj9)
        have DP12 : Dx K H12 j (.ref p) (planD cs) := by
          refine plan_keep (fun b zs hb => ?_) Dp
          rcases hb with (hb | ⟨ob, hb⟩) | hb
          · exact .inl (.inl (oth _ _ (fun z => by rw [z, CA9.files u0 mu] at hb; cases hb) (e911 _ _ hb)))
          · exact .inl (.inr ⟨ob, oth _ _ (fun z => by rw [z, CA9.files u0 mu] at hb; cases hb) (e911 _ _ hb)⟩)
          · exact .inr hb
        have FN : ∀ y ∈ ys, Fine p0 (F' y) := fun y hy => fine_of (AO12 y hy) lPT hPT (SR y hy)
        have CO12 : ConOk ys F' := ⟨FO, fun y hy => (FN y hy).ok⟩
        have njo : ∀ {b : Addr} {H' : Hp}, Same H12 H' → H' b = none → b ≠ j := fun e z q => by rw [q, e _ _ hj12] at z; cases z
        -- kept
        refine ⟨_, rfl, _, rfl, by show 2 ≤ sizeLine; decide, fun q13 n13 => ?_⟩
        have GP : Gr (planD cs) 100000 3 := (Gd.tup (plan_gds SC.ok FO.nm)).gr.mono (by have := SC.le; omega) (by decide)
        have GK : Gr (.list [conD ys F', planD cs]) 200002 4 := Gr.two ((con_gr FO FN).mono (by decide) (by decide)) GP
        have DK : Dx K (upd H12 q13 (.lst [.ref c, .ref p])) j (.ref q13) (.list [conD ys F', planD cs]) := new_lst hj12 n13 (.cons (con_dx CA12.at_ CA12.files cj adj) (.one DP12))
        have e13 : Same H12 (upd H12 q13 (.lst [.ref c, .ref p])) := same_new n13
        generalize upd H12 q13 (.lst [.ref c, .ref p]) = H13 at DK e13 ⊢
        refine ⟨_, _, j, rfl, DK, GK.sh, GK.fits (by decide), Nat.le_trans GK.dp (by decide), ?_⟩
        clear DK
        -- due
        refine ⟨_, rfl, _, rfl, j, c, p, ys, PT, ad, F', cs, rfl, CA12.same e13, FO, lPT, AO12, SC, DP12.same e13, fun d0 ks ad0 G0 H14 pm so SG0 RA0 e14 => ⟨_, _, rfl, ?_⟩⟩
        have e1214 := e13.trans e14
        have D0 : Dx K H14 j (.ref d0) (conD ks G0) := res_dx RA0 (e13 _ _ hj12)
        -- told
        refine ⟨_, rfl, _, rfl, j, c, p, ys, PT, ad, F', cs, rfl, CA12.same e1214, CO12, lPT, AO12, SC, DP12.same e1214, fun d1 ks1 ad1 G1 H15 pm1 so1 SG1 RA1 e15 => ?_⟩
        obtain rfl := sorted_one so1 so pm1 pm
        have eq1 : conD ks1 G1 = conD ks1 G0 := res_eq AO12 AO12 SC.ok pm (fun _ _ _ => rfl) SG1 SG0
        have e1215 := e1214.trans e15
        refine ⟨_, rfl, _, rfl, rfl, j, c, p, ys, PT, ad, F', cs, rfl, CA12.same e1215, CO12, lPT, AO12, SC, DP12.same e1215, fun d2 ks2 ad2 G2 H16 pm2 so2 SG2 RA2 e16 => ?_⟩
        obtain rfl := sorted_one so2 so pm2 pm
        have eq2 : conD ks2 G2 = conD ks2 G0 := res_eq AO12 AO12 SC.ok pm (fun _ _ _ => rfl) SG2 SG0
        have e1216 := e1215.trans e16
        refine ⟨by show 2 ≤ sizeLine; decide, fun q17 n17 => ?_⟩
        have e17 : Same H16 (upd H16 q17 (.lst [.ref d1, .ref d2])) := same_new n17
        have hq17 : upd H16 q17 (.lst [.ref d1, .ref d2]) q17 = some (.lst [.ref d1, .ref d2]) := upd_same
        have fq : H14 q17 = none := (e15.trans e16).free n17
        have e1217 := e1216.trans e17
        have RA1 := (RA1.same e16).same e17
        have RA2 := RA2.same e17
        generalize upd H16 q17 (.lst [.ref d1, .ref d2]) = H17 at hq17 e17 e1217 RA1 RA2 ⊢
        -- append
        refine ⟨_, rfl, .inl ⟨rfl, _, sqOf hq17⟩, _, rfl, c, ys, ad, F', rfl, CA12.same e1217, FO, CO12.fi, fun c2 adT H18 CT e18 => ?_⟩
        have e1218 := e1217.trans e18
        refine ⟨_, rfl, j, c2, p, ys.reverse, PT, adT, (fun y => (F' y).reverse), cs, rfl, CT, ⟨FO.rev, fun y hy => (CO12.fi y (List.mem_reverse.mp hy)).rev⟩, lPT, (fun y hy => (AO12 y (List.mem_reverse.mp hy)).rev), ⟨SC.le, fun cp hc => ⟨(SC.ok cp hc).w, List.mem_reverse.mpr (SC.ok cp hc).a, List.mem_reverse.mpr (SC.ok cp hc).b, (SC.ok cp hc).n⟩⟩, DP12.same e1218, fun d3 ks3 ad3' G3 H19 pm3 so3 SG3 RA3 e19 => ?_⟩
        obtain rfl := sorted_one so3 so (pm3.trans (List.reverse_perm ys)) pm
        have eq3 : conD ks3 G3 = conD ks3 G0 := res_eq (F' := fun y => (F' y).reverse) (fun y hy => (AO12 y hy).rev) AO12 SC.ok pm (fun y hy k => (rev_eq (AO12 y hy).nd k).symm) SG3 SG0
        have e1819 := e18.trans e19
        have e1219 := e1217.trans e1819
        have hq19 := e1819 _ _ hq17
        refine ⟨q17, _, _, rfl, rfl, hq19, by show 2 < sizeLine; decide, ?_⟩
        have hq20 : upd H19 q17 (.lst ([.ref d1, .ref d2] ++ [.ref d3])) q17 = some (.lst [.ref d1, .ref d2, .ref d3]) := upd_same
        have ot : ∀ {b : Addr} {o : HO}, b ≠ q17 → H19 b = some o → upd H19 q17 (.lst ([.ref d1, .ref d2] ++ [.ref d3])) b = some o := fun n e => (upd_ne n).trans e
        have isd : ∀ {b : Addr} {o : HO}, H19 b = some o → (∀ xs, o ≠ .lst xs) → b ≠ q17 := fun h n z => by rw [z, hq19] at h; exact n _ (Option.some.inj h).symm
        have e1220 : Same H12 (upd H19 q17 (.lst ([.ref d1, .ref d2] ++ [.ref d3]))) := fun b o e => ot (fun z => by have := e1214 b o e; rw [z, fq] at this; cases this) (e1219 b o e)
        have e1420 : Same H14 (upd H19 q17 (.lst ([.ref d1, .ref d2] ++ [.ref d3]))) := fun b o e => ot (fun z => by rw [z, fq] at e; cases e) (e1819 _ _ (e17 _ _ (e16 _ _ (e15 b o e))))
        have RA1 := RA1.same e1819
        have RA2 := RA2.same e1819
        have R1 : ResAt H14 (upd H19 q17 (.lst ([.ref d1, .ref d2] ++ [.ref d3]))) d1 ks3 ad1 G1 := ⟨ot (isd RA1.at_ (fun _ h => nomatch h)) RA1.at_, fun y hy => ot (isd (RA1.files y hy) (fun _ h => nomatch h)) (RA1.files y hy), RA1.ne, RA1.fd, RA1.fr⟩
        have D2 : Dx K (upd H19 q17 (.lst ([.ref d1, .ref d2] ++ [.ref d3]))) j (.ref d2) (conD ks3 G2) := con_dx (ot (isd RA2.at_ (fun _ h => nomatch h)) RA2.at_) (fun y hy => ot (isd (RA2.files y hy) (fun _ h => nomatch h)) (RA2.files y hy)) (njo e1215 RA2.fd) (fun y hy => njo e1215 (RA2.fr y hy))
        have D3 : Dx K (upd H19 q17 (.lst ([.ref d1, .ref d2] ++ [.ref d3]))) j (.ref d3) (conD ks3 G3) := con_dx (ot (isd RA3.at_ (fun _ h => nomatch h)) RA3.at_) (fun y hy => ot (isd (RA3.files y hy) (fun _ h => nomatch h)) (RA3.files y hy)) (njo e1218 RA3.fd) (fun y hy => njo e1218 (RA3.fr y hy))
        have D1 : Dx K (upd H19 q17 (.lst ([.ref d1, .ref d2] ++ [.ref d3]))) j (.ref d1) (conD ks3 G1) := con_dx R1.at_ R1.files (njo e1214 R1.fd) (fun y hy => njo e1214 (R1.fr y hy))
        clear RA1 RA2 RA3 ot isd
        rw [eq1] at D1
        rw [eq2] at D2
        rw [eq3] at D3
        show tSeq _ _ _ _ (upd H19 q17 (.lst ([.ref d1, .ref d2] ++ [.ref d3])))
        generalize upd H19 q17 (.lst ([.ref d1, .ref d2] ++ [.ref d3])) = H20 at hq20 e1220 e1420 R1 D1 D2 D3 ⊢
        -- repr(told) != repr([due] * 3)
        have FK : Fold ks3 := FO.perm pm
        have GD : Gr (conD ks3 G0) 99640 2 := by
          rw [← eq1]
          exact con_gr FK fun y hy => srt_fine (allok_runF AO12 SC.ok y (pm.mem_iff.mp hy)) lPT hPT (src_run AO12 SC.ok SR y (pm.mem_iff.mp hy)) (SG1 y hy)
        have G3' : Gr (.list [conD ks3 G0, conD ks3 G0, conD ks3 G0]) 298923 3 := Gr.three GD
        have qj : q17 ≠ j := njo e1214 fq
        refine ⟨_, rfl, _, _, j, rfl, .lst qj (sqOf hq20) (.cons D1 (.cons D2 (.one D3))), G3'.sh, G3'.fits (by decide), Nat.le_trans G3'.dp (by decide), ?_⟩
        refine ⟨_, rfl, by show 1 ≤ sizeLine; decide, fun q21 n21 => ?_⟩
        have e21 : Same H20 (upd H20 q21 (.lst [.ref d0])) := same_new n21
        have hq21 : upd H20 q21 (.lst [.ref d0]) q21 = some (.lst [.ref d0]) := upd_same
        generalize upd H20 q21 (.lst [.ref d0]) = H21 at e21 hq21 ⊢
        refine ⟨q21, 3, _, rfl, rfl, hq21, by decide, by decide, by show 3 ≤ sizeLine; decide, fun q22 n22 => ?_⟩
        have e22 : Same H21 (upd H21 q22 (.lst (List.replicate (Int.toNat 3) [V.ref d0]).flatten)) := same_new n22
        have hq22 : upd H21 q22 (.lst (List.replicate (Int.toNat 3) [V.ref d0]).flatten) q22 = some (.lst [.ref d0, .ref d0, .ref d0]) := upd_same
        have e2022 := e21.trans e22
        generalize upd H21 q22 (.lst (List.replicate (Int.toNat 3) [V.ref d0]).flatten) = H22 at e22 hq22 e2022 ⊢
        have D022 := (D0.same e1420).same e2022
        have q22j : q22 ≠ j := njo (e1220.trans e21) n22
        refine ⟨_, _, j, rfl, .lst q22j (sqOf hq22) (.cons D022 (.cons D022 (.one D022))), G3'.sh, G3'.fits (by decide), Nat.le_trans G3'.dp (by decide), rfl, _, rfl, ?_⟩
        rw [decide_eq_true rfl]
        show if (!true) = true then _ else _
        -- told[0] is changed
        have FG1 : ∀ y ∈ ks3, Fine p0 (G1 y) := fun y hy => srt_fine (allok_runF AO12 SC.ok y (pm.mem_iff.mp hy)) lPT hPT (src_run AO12 SC.ok SR y (pm.mem_iff.mp hy)) (SG1 y hy)
        have R22 := R1.same e2022
        have hq22b := e2022 _ _ hq20
        have e1422 := e1420.trans e2022
        clear D1 D2 D3 hq20 R1 hq21 e21 hq22 D022 e22
        refine ⟨d1, _, R22.at_, trivial, fun od => ?_⟩
        have fz : upd H22 d1 (.frz od (.dK (kvR ks3 ad1))) d1 = some (.frz od (.dK (kvR ks3 ad1))) := upd_same
        have g23 : ∀ b o, b ≠ d1 → H22 b = some o → upd H22 d1 (.frz od (.dK (kvR ks3 ad1))) b = some o := fun b o n e => (upd_ne n).trans e
        have e1423 : Same H14 (upd H22 d1 (.frz od (.dK (kvR ks3 ad1)))) := same_up e1422 R22.fd
        generalize upd H22 d1 (.frz od (.dK (kvR ks3 ad1))) = H23 at fz g23 e1423 ⊢
        have qd : q17 ≠ d1 := fun z => by rw [z, R22.at_] at hq22b; cases hq22b
        refine ⟨_, rfl, q17, _, 0, .ref d1, rfl, rfl, sqOf (g23 _ _ qd hq22b), rfl, d1, od, rfl, .inl ⟨_, fz, ?_⟩⟩
        refine for_it (walk_keys (kvs := kvR ks3 ad1)) (fun k σ H' => (∃ y8 y13, σ = [some (.ref a), some (.int (0 + (i : Int))), some (.ref j), some (.bl gr), some (.int (0 + (i' : Int))), some (.ref a2), some (.ref c), some (.ref p), y8, y9, some (.str (PyData.list [conD ys F', planD cs]).shown), some (.ref d0), some (.ref q17), y13]) ∧
          Same H14 H' ∧ H' d1 = some (.frz od (.dK (kvR ks3 ad1))) ∧ H' q17 = some (.lst [.ref d1, .ref d2, .ref d3]) ∧ ∀ y ∈ ks3, ∃ kvs, H' (ad1 y) = some (.dK kvs) ∧ kvs.length ≤ 40 + k) ?_ (fun k σ H' _ h => h.2.2.1) ?_ ?_
        · refine ⟨⟨_, _, rfl⟩, e1423, fz, g23 _ _ qd hq22b, fun y hy => ⟨_, g23 _ _ (R22.ne y hy) (R22.files y hy), ?_⟩⟩
          rw [List.length_map]
          exact (FG1 y hy).ok.le
        · rintro k x σ H24 H25 hk ⟨⟨y8, y13, rfl⟩, s14, f24, q24, r24⟩ ⟨rfl, kk, vv, hkv, rfl⟩
          rw [List.length_map] at hk
          rw [List.getElem?_map] at hkv
          obtain ⟨y, hy, rfl⟩ : ∃ y, ks3[k]? = some y ∧ kk = .inr y := by
            cases h : ks3[k]? with
            | none => rw [h] at hkv; cases hkv
            | some y => rw [h] at hkv; cases hkv; exact ⟨y, rfl, rfl⟩
          have my := List.mem_of_getElem? hy
          obtain ⟨kvs, hx, lx⟩ := r24 y my
          have g : DGet H25 d1 (.str y) (some (.ref (ad1 y))) := kv_val (ad := ad1) my ▸ (.inl ⟨kvR ks3 ad1, .inr y, .inr ⟨od, f24⟩, rfl, rfl⟩ : DGet H25 d1 (kV (.inr y)) (valV (kvR ks3 ad1) (.inr y)))
          have k20 := FK.hi
          refine ⟨_, rfl, q17, _, 0, .ref d1, rfl, rfl, sqOf q24, rfl, _, rfl, d1, _, rfl, g, ?_⟩
          refine ⟨_, rfl, ad1 y, _, rfl, DPut.k (k := .inr (Str.ofString "new")) hx (small1000 (by omega)), ?_⟩
          refine ⟨⟨_, _, rfl⟩, same_up s14 (R22.fr y my), ?_, ?_, fun z hz => ?_⟩
          · rw [upd_ne (fun e => by rw [e, hx] at f24; cases f24)]
            exact f24
          · rw [upd_ne (fun e => by rw [e, hx] at q24; cases q24)]
            exact q24
          · by_cases e : ad1 z = ad1 y
            · rw [e, upd_same]
              refine ⟨_, rfl, ?_⟩
              have := length_mergeK [((Sum.inr (Str.ofString "new") : Key), V.str (Str.ofString "?"))] kvs
              have e3 : mergeK kvs [((Sum.inr (Str.ofString "new") : Key), V.str (Str.ofString "?"))] = putK kvs (Sum.inr (Str.ofString "new")) (V.str (Str.ofString "?")) := rfl
              rw [e3] at this
              refine Nat.le_trans this ?_
              show kvs.length + 1 ≤ 40 + (k + 1)
              omega
            · rw [upd_ne e]
              obtain ⟨xs2, h2, l2⟩ := r24 z hz
              exact ⟨xs2, h2, by omega⟩
        rintro σ H25 ⟨⟨y8, y13, rfl⟩, s14, f24, q24, r24⟩
        refine ⟨f24, ?_⟩
        have s26 : Same H14 (upd H25 d1 (.dK (kvR ks3 ad1))) := same_up s14 R22.fd
        clear f24 q24 r24 s14
        generalize upd H25 d1 (.dK (kvR ks3 ad1)) = H26 at s26 ⊢
        have e1226 := e1214.trans s26
        -- once more
        refine ⟨_, rfl, _, rfl, j, c, p, ys, PT, ad, F', cs, rfl, CA12.same e1226, CO12, lPT, AO12, SC, DP12.same e1226, fun d5 ks5 ad5 G5 H27 pm5 so5 SG5 RA5 e27 => ?_⟩
        obtain rfl := sorted_one so5 so pm5 pm
        have eq5 : conD ks5 G5 = conD ks5 G0 := res_eq AO12 AO12 SC.ok pm (fun _ _ _ => rfl) SG5 SG0
        have D5 : Dx K H27 j (.ref d5) (conD ks5 G5) := res_dx RA5 (e1226 _ _ hj12)
        rw [eq5] at D5
        have e1227 := e1226.trans e27
        refine ⟨_, _, j, rfl, D5, GD.sh, GD.fits (by decide), Nat.le_trans GD.dp (by decide), ?_⟩
        refine ⟨_, rfl, _, _, j, rfl, (D0.same s26).same e27, GD.sh, GD.fits (by decide), Nat.le_trans GD.dp (by decide), rfl, _, rfl, ?_⟩
        rw [decide_eq_true rfl]
        show if (!true) = true then _ else _
        refine ⟨_, rfl, _, rfl, by show 2 ≤ sizeLine; decide, fun q28 n28 => ?_⟩
        have DK2 : Dx K (upd H27 q28 (.lst [.ref c, .ref p])) j (.ref q28) (.list [conD ys F', planD cs]) := new_lst (e1227 _ _ hj12) n28 (.cons (con_dx (CA12.same e1227).at_ (CA12.same e1227).files cj adj) (.one (DP12.same e1227)))
        have e1228 : Same H12 (upd H27 q28 (.lst [.ref c, .ref p])) := e1227.trans (same_new n28)
        generalize upd H27 q28 (.lst [.ref c, .ref p]) = H28 at DK2 e1228 ⊢
        refine ⟨_, _, j, rfl, DK2, GK.sh, GK.fits (by decide), Nat.le_trans GK.dp (by decide), _, rfl, rfl, _, rfl, ?_⟩
        rw [decide_eq_true rfl]
        show if (!true) = true then _ else _
        exact ⟨_, _, _, _, _, _, _, _, _, _, l5, rfl, e212.trans (Eff.same e1228), e1228 _ _ hj12, jl9.mono (by omega)⟩
      · rintro σ H3 ⟨y4, y5, y6, y7, y8, y9, y10, y11, y12, y13, l1, rfl, e3, hj3, jl3⟩
        exact ⟨_, _, _, _, _, _, _, _, _, _, _, _, _, rfl, fin e3⟩
    · rintro σ H1 ⟨x1, x2, x3, x4, x5, x6, x7, x8, x9, x10, x11, x12, x13, rfl, SH⟩
      have m1 : mergeK [] [((Sum.inr pX : Key), V.str t1)] = kvF [(pX, t1)] := merge_nd _ [] (by show [(Sum.inr pX : Key)].Nodup; decide +kernel)
      have m2 : ∀ a b : Str, mergeK [] [((Sum.inr pX : Key), V.str a), (Sum.inr pY, V.str b)] = kvF [(pX, a), (pY, b)] := fun a b => merge_nd _ [] (by show [(Sum.inr pX : Key), Sum.inr pY].Nodup; decide +kernel)
      have m3 : ∀ u v x : Addr, mergeK [] [((Sum.inr nA : Key), V.ref u), (Sum.inr nB, V.ref v), (Sum.inr nC, V.ref x)] = [((Sum.inr nA : Key), V.ref u), (Sum.inr nB, V.ref v), (Sum.inr nC, V.ref x)] := fun u v x => merge_nd _ [] (by show [(Sum.inr nA : Key), Sum.inr nB, Sum.inr nC].Nodup; decide +kernel)
      -- contents_here
      refine fun c nc => ?_
      have hc0 : upd H1 c (.dK []) c = some (.dK []) := upd_same
      show tPairs _ _ (upd H1 c (.dK [])) _
      generalize upd H1 c (.dK []) = A0 at hc0 ⊢
      refine fun u nu => ⟨upd_same, [(.inr pX, .str t1)], rfl, by decide, ?_⟩
      rw [m1]
      have s1 : Same A0 (upd (upd A0 u (.dK [])) u (.dK (kvF [(pX, t1)]))) := same_up (same_new nu) nu
      have hu : upd (upd A0 u (.dK [])) u (.dK (kvF [(pX, t1)])) u = some (.dK (kvF [(pX, t1)])) := upd_same
      have uc : u ≠ c := (ne_of_none hc0 nu).symm
      show tPairs _ _ (upd (upd A0 u (.dK [])) u (.dK (kvF [(pX, t1)]))) _
      generalize upd (upd A0 u (.dK [])) u (.dK (kvF [(pX, t1)])) = A1 at s1 hu ⊢
      have hc1 := s1 _ _ hc0
      refine fun v nv => ⟨upd_same, [(.inr pX, .str t2), (.inr pY, .str t3)], rfl, by decide, ?_⟩
      rw [m2]
      have s2 : Same A1 (upd (upd A1 v (.dK [])) v (.dK (kvF [(pX, t2), (pY, t3)]))) := same_up (same_new nv) nv
      have hv : upd (upd A1 v (.dK [])) v (.dK (kvF [(pX, t2), (pY, t3)])) v = some (.dK (kvF [(pX, t2), (pY, t3)])) := upd_same
      have vc : v ≠ c := (ne_of_none hc1 nv).symm
      show tPairs _ _ (upd (upd A1 v (.dK [])) v (.dK (kvF [(pX, t2), (pY, t3)]))) _
      generalize upd (upd A1 v (.dK [])) v (.dK (kvF [(pX, t2), (pY, t3)])) = A2 at s2 hv ⊢
      have hc2 := s2 _ _ hc1
      have hu2 := s2 _ _ hu
      refine fun x nx => ?_
      have s3 : Same A2 (upd A2 x (.dK [])) := same_new nx
      have hx : upd A2 x (.dK []) x = some (.dK (kvF [])) := upd_same
      have xc : x ≠ c := (ne_of_none hc2 nx).symm
      show tPairs _ _ (upd A2 x (.dK [])) _
      generalize upd A2 x (.dK []) = A3 at s3 hx ⊢
      have hc3 := s3 _ _ hc2
      refine ⟨hc3, [(.inr nA, .ref u), (.inr nB, .ref v), (.inr nC, .ref x)], rfl, by show 3 ≤ 15; decide, ?_⟩
      rw [m3]
      have CA : ConAt (upd A3 c (.dK [(.inr nA, .ref u), (.inr nB, .ref v), (.inr nC, .ref x)])) c abc3 (ad3 u v x) C3 := con3 upd_same ((upd_ne uc).trans (s3 _ _ hu2)) ((upd_ne vc).trans (s3 _ _ hv)) ((upd_ne xc).trans hx) uc vc xc
      show tSeq _ _ _ _ (upd A3 c (.dK [(.inr nA, .ref u), (.inr nB, .ref v), (.inr nC, .ref x)]))
      generalize upd A3 c (.dK [(.inr nA, .ref u), (.inr nB, .ref v), (.inr nC, .ref x)]) = A4 at CA ⊢
      clear hc3 hx s3 hu2 hv hc2 s2 hu hc1 s1 hc0
      -- told
      refine ⟨_, rfl, by show 3 ≤ sizeLine; decide, fun q1 n1 => ⟨by show 3 ≤ sizeLine; decide, fun q2 n2 => ⟨by show 3 ≤ sizeLine; decide, fun q3 n3 => ?_⟩⟩⟩
      have s5 : Same A4 (upd A4 q1 (.tup (cpV (Str.ofString "over", nA, nC)))) := same_new n1
      have s6 : Same (upd A4 q1 (.tup (cpV (Str.ofString "over", nA, nC)))) (upd (upd A4 q1 (.tup (cpV (Str.ofString "over", nA, nC)))) q2 (.tup (cpV (Str.ofString "over", nB, nA)))) := same_new n2
      have s7 : Same (upd (upd A4 q1 (.tup (cpV (Str.ofString "over", nA, nC)))) q2 (.tup (cpV (Str.ofString "over", nB, nA)))) (upd (upd (upd A4 q1 (.tup (cpV (Str.ofString "over", nA, nC)))) q2 (.tup (cpV (Str.ofString "over", nB, nA)))) q3 (.tup (cpV (Str.ofString "over", nC, nB)))) := same_new n3
      have h1 := s7 _ _ (s6 _ _ (upd_same (H := A4) (a := q1) (o := .tup (cpV (Str.ofString "over", nA, nC)))))
      have h2 := s7 _ _ (upd_same (H := upd A4 q1 (.tup (cpV (Str.ofString "over", nA, nC)))) (a := q2) (o := .tup (cpV (Str.ofString "over", nB, nA))))
      have h3 : upd (upd (upd A4 q1 (.tup (cpV (Str.ofString "over", nA, nC)))) q2 (.tup (cpV (Str.ofString "over", nB, nA)))) q3 (.tup (cpV (Str.ofString "over", nC, nB))) q3 = some (.tup (cpV (Str.ofString "over", nC, nB))) := upd_same
      have CA7 := CA.same (s5.trans (s6.trans s7))
      show tNil _ (upd (upd (upd A4 q1 (.tup (cpV (Str.ofString "over", nA, nC)))) q2 (.tup (cpV (Str.ofString "over", nB, nA)))) q3 (.tup (cpV (Str.ofString "over", nC, nB)))) _
      generalize upd (upd (upd A4 q1 (.tup (cpV (Str.ofString "over", nA, nC)))) q2 (.tup (cpV (Str.ofString "over", nB, nA)))) q3 (.tup (cpV (Str.ofString "over", nC, nB))) = A7 at h1 h2 h3 CA7 ⊢
      clear s5 s6 s7 CA
      have tc : ∀ {q : Addr} {zs : List V}, A7 q = some (.tup zs) → q ≠ c := fun h z => by rw [z, CA7.at_] at h; cases h
      refine ⟨by show 3 ≤ sizeLine; decide, fun p np => ?_⟩
      have DP : Dx K (upd A7 p (.tup [.ref q1, .ref q2, .ref q3])) c (.ref p) (planD plan3) := new_tup CA7.at_ np (.cons (.tup (tc h1) (stOf h1) (str_dx _)) (.cons (.tup (tc h2) (stOf h2) (str_dx _)) (.one (.tup (tc h3) (stOf h3) (str_dx _)))))
      have CA8 := CA7.same (same_new (o := .tup [.ref q1, .ref q2, .ref q3]) np)
      show tNil _ (upd A7 p (.tup [.ref q1, .ref q2, .ref q3])) _
      generalize upd A7 p (.tup [.ref q1, .ref q2, .ref q3]) = A8 at DP CA8 ⊢
      refine ⟨c, c, p, abc3, [pX, pY], ad3 u v x, C3, plan3, rfl, CA8, con_ok3, by decide, all_ok3, scr3, DP, fun d ks ad G A9 pm so SG RA e9 => ?_⟩
      obtain rfl := sorted_one so srt3 pm (List.Perm.refl _)
      have GE : ∀ y ∈ abc3, G y = E3 y := fun y hy => srt_one (allok_runF all_ok3 scr3.ok y hy) (allok_runF all_ok3 scr3.ok y hy) (fun _ => rfl) (SG y hy) (exp3 y hy)
      -- what is due
      refine ⟨_, rfl, fun e ne => ?_⟩
      have sE : Same A9 (upd A9 e (.dK [])) := same_new ne
      have he0 : upd A9 e (.dK []) e = some (.dK []) := upd_same
      show tPairs _ _ (upd A9 e (.dK [])) _
      generalize upd A9 e (.dK []) = B0 at sE he0 ⊢
      have de : d ≠ e := fun z => by have := RA.at_; rw [z, ne] at this; cases this
      have ade : ∀ y ∈ abc3, ad y ≠ e := fun y hy z => by have := RA.files y hy; rw [z, ne] at this; cases this
      refine fun u2 nu2 => ⟨upd_same, [(.inr pX, .str t2), (.inr pY, .str t3)], rfl, by decide, ?_⟩
      rw [m2]
      have z1 : Same B0 (upd (upd B0 u2 (.dK [])) u2 (.dK (kvF [(pX, t2), (pY, t3)]))) := same_up (same_new nu2) nu2
      have hu2 : upd (upd B0 u2 (.dK [])) u2 (.dK (kvF [(pX, t2), (pY, t3)])) u2 = some (.dK (kvF [(pX, t2), (pY, t3)])) := upd_same
      have ue : u2 ≠ e := (ne_of_none he0 nu2).symm
      show tPairs _ _ (upd (upd B0 u2 (.dK [])) u2 (.dK (kvF [(pX, t2), (pY, t3)]))) _
      generalize upd (upd B0 u2 (.dK [])) u2 (.dK (kvF [(pX, t2), (pY, t3)])) = B1 at z1 hu2 ⊢
      have he1 := z1 _ _ he0
      refine fun v2 nv2 => ⟨upd_same, [(.inr pX, .str t1), (.inr pY, .str t3)], rfl, by decide, ?_⟩
      rw [m2]
      have z2 : Same B1 (upd (upd B1 v2 (.dK [])) v2 (.dK (kvF [(pX, t1), (pY, t3)]))) := same_up (same_new nv2) nv2
      have hv2 : upd (upd B1 v2 (.dK [])) v2 (.dK (kvF [(pX, t1), (pY, t3)])) v2 = some (.dK (kvF [(pX, t1), (pY, t3)])) := upd_same
      have ve : v2 ≠ e := (ne_of_none he1 nv2).symm
      show tPairs _ _ (upd (upd B1 v2 (.dK [])) v2 (.dK (kvF [(pX, t1), (pY, t3)]))) _
      generalize upd (upd B1 v2 (.dK [])) v2 (.dK (kvF [(pX, t1), (pY, t3)])) = B2 at z2 hv2 ⊢
      have he2 := z2 _ _ he1
      refine fun x2 nx2 => ⟨upd_same, [(.inr pX, .str t1)], rfl, by decide, ?_⟩
      rw [m1]
      have z3 : Same B2 (upd (upd B2 x2 (.dK [])) x2 (.dK (kvF [(pX, t1)]))) := same_up (same_new nx2) nx2
      have hx2 : upd (upd B2 x2 (.dK [])) x2 (.dK (kvF [(pX, t1)])) x2 = some (.dK (kvF [(pX, t1)])) := upd_same
      have xe : x2 ≠ e := (ne_of_none he2 nx2).symm
      show tPairs _ _ (upd (upd B2 x2 (.dK [])) x2 (.dK (kvF [(pX, t1)]))) _
      generalize upd (upd B2 x2 (.dK [])) x2 (.dK (kvF [(pX, t1)])) = B3 at z3 hx2 ⊢
      have he3 := z3 _ _ he2
      have s93 := sE.trans (z1.trans (z2.trans z3))
      refine ⟨he3, [(.inr nA, .ref u2), (.inr nB, .ref v2), (.inr nC, .ref x2)], rfl, by show 3 ≤ 15; decide, ?_⟩
      rw [m3]
      have CE : ConAt (upd B3 e (.dK [(.inr nA, .ref u2), (.inr nB, .ref v2), (.inr nC, .ref x2)])) e abc3 (ad3 u2 v2 x2) E3 := con3 upd_same ((upd_ne ue).trans (z3 _ _ (z2 _ _ hu2))) ((upd_ne ve).trans (z3 _ _ hv2)) ((upd_ne xe).trans hx2) ue ve xe
      refine ⟨2, by decide, eq_con (F := E3) ((upd_ne de).trans (s93 _ _ RA.at_)) CE.at_ (fun y hy => ?_) CE.files nd3, q _⟩
      rw [upd_ne (ade y hy), ← GE y hy]
      exact s93 _ _ (RA.files y hy)
end
end Cv

/-! part K08M -/
set_option maxRecDepth 100000
set_option maxHeartbeats 4000000
namespace Cv
open PySem PySem.Spec PyProof.Rows L2
theorem has_of {P : Program} {w : World} {K : PySem.W.Frag} {mg : Str → Option Value} {base : Heap} {k : Nat} {x : Str} {qual : Str} {st : Stmt} {f : Addr} {fd : FuncData} {ps : List Str} {sp : Sp} (G : FnOk P w K mg base CX0 k f fd ps sp) (hm : mg x = some (.ref f)) (F : Fun K x qual st f fd) (b : Binds K fd ps []) :
    Has P w K mg base CX0 k x ps sp := ⟨f, fd, G, hm, F.kp, b⟩
theorem hasK2 {P : Program} {w : World} {K : PySem.W.Frag} {mg : Str → Option Value} {base : Heap} {k : Nat} {x : Str} {qual : Str} {st : Stmt} {f : Addr} {fd : FuncData} {p r : Str} {sp : Sp} (G : FnOk P w K mg base CX0 k f fd [p, r] sp) (hm : mg x = some (.ref f)) (F : Fun K x qual st f fd)
    (hb : ∀ (s : Shared) (u v : Value), BindsTo s fd ⟨[], [(r, u), (p, v)]⟩ [(p, v), (r, u)]) : HasK P w K mg base CX0 k x [p, r] [r, p] kRev sp := by
  refine ⟨f, fd, G, hm, F.kp, fun s ws h => ?_, fun {zs ws} h _ => h.reverse⟩
  match ws, h with
  | [u, v], _ => exact hb s u v
theorem all_mk {l : PySem.W.OpenLaw} {w : World} {K : PySem.W.Frag} {h : Heap} {mg : Str → Option Value} {fa f1 f2 f3 f4 f5 f6 f7 f8 f9 f10 f11 f12 f13 f14 f15 f16 f17 f18 f19 f20 : Addr} (X : K.In h) (G : h.Ns mainGlobals mg) (hfa : mg "law" = some (.ref fa))
    {od1 an1 : Option Addr} {sl1 : Array (Option Value)} {oc1 kV1 dc1 pm1 cd1 ct1 : Value} (a1 : PySem.W.nsIn K mainGlobals "is_name" = some (some (.ref f1))) (l1 : K.lookup f1 = some ⟨oc1, od1, .func (PySem.W.fnOf "is_name" "is_name" (defArgs sName) (defBody sName) (defScope sName) .none kV1 dc1 pm1 an1 cd1 ct1), sl1⟩) (c1 : PySem.W.codeIn K cd1 "is_name" = true) (k1 : PySem.W.keepIn K (.ref f1) = true)
    {od2 an2 : Option Addr} {sl2 : Array (Option Value)} {oc2 kV2 dc2 pm2 cd2 ct2 : Value} (a2 : PySem.W.nsIn K mainGlobals "has_names" = some (some (.ref f2))) (l2 : K.lookup f2 = some ⟨oc2, od2, .func (PySem.W.fnOf "has_names" "has_names" (defArgs sHasNames) (defBody sHasNames) (defScope sHasNames) .none kV2 dc2 pm2 an2 cd2 ct2), sl2⟩) (c2 : PySem.W.codeIn K cd2 "has_names" = true) (k2 : PySem.W.keepIn K (.ref f2) = true)
    {od3 an3 : Option Addr} {sl3 : Array (Option Value)} {oc3 kV3 dc3 pm3 cd3 ct3 : Value} (a3 : PySem.W.nsIn K mainGlobals "is_copy" = some (some (.ref f3))) (l3 : K.lookup f3 = some ⟨oc3, od3, .func (PySem.W.fnOf "is_copy" "is_copy" (defArgs sCopy) (defBody sCopy) (defScope sCopy) .none kV3 dc3 pm3 an3 cd3 ct3), sl3⟩) (c3 : PySem.W.codeIn K cd3 "is_copy" = true) (k3 : PySem.W.keepIn K (.ref f3) = true)
    {od4 an4 : Option Addr} {sl4 : Array (Option Value)} {oc4 kV4 dc4 pm4 cd4 ct4 : Value} (a4 : PySem.W.nsIn K mainGlobals "is_script" = some (some (.ref f4))) (l4 : K.lookup f4 = some ⟨oc4, od4, .func (PySem.W.fnOf "is_script" "is_script" (defArgs sScript) (defBody sScript) (defScope sScript) .none kV4 dc4 pm4 an4 cd4 ct4), sl4⟩) (c4 : PySem.W.codeIn K cd4 "is_script" = true) (k4 : PySem.W.keepIn K (.ref f4) = true)
    {od5 an5 : Option Addr} {sl5 : Array (Option Value)} {oc5 kV5 dc5 pm5 cd5 ct5 : Value} (a5 : PySem.W.nsIn K mainGlobals "check_script" = some (some (.ref f5))) (l5 : K.lookup f5 = some ⟨oc5, od5, .func (PySem.W.fnOf "check_script" "check_script" (defArgs sChkS) (defBody sChkS) (defScope sChkS) .none kV5 dc5 pm5 an5 cd5 ct5), sl5⟩) (c5 : PySem.W.codeIn K cd5 "check_script" = true) (k5 : PySem.W.keepIn K (.ref f5) = true)
    {od6 an6 : Option Addr} {sl6 : Array (Option Value)} {oc6 kV6 dc6 pm6 cd6 ct6 : Value} (a6 : PySem.W.nsIn K mainGlobals "is_path" = some (some (.ref f6))) (l6 : K.lookup f6 = some ⟨oc6, od6, .func (PySem.W.fnOf "is_path" "is_path" (defArgs sPath) (defBody sPath) (defScope sPath) .none kV6 dc6 pm6 an6 cd6 ct6), sl6⟩) (c6 : PySem.W.codeIn K cd6 "is_path" = true) (k6 : PySem.W.keepIn K (.ref f6) = true)
    {od7 an7 : Option Addr} {sl7 : Array (Option Value)} {oc7 kV7 dc7 pm7 cd7 ct7 : Value} (a7 : PySem.W.nsIn K mainGlobals "are_files" = some (some (.ref f7))) (l7 : K.lookup f7 = some ⟨oc7, od7, .func (PySem.W.fnOf "are_files" "are_files" (defArgs sFiles) (defBody sFiles) (defScope sFiles) .none kV7 dc7 pm7 an7 cd7 ct7), sl7⟩) (c7 : PySem.W.codeIn K cd7 "are_files" = true) (k7 : PySem.W.keepIn K (.ref f7) = true)
    {od8 an8 : Option Addr} {sl8 : Array (Option Value)} {oc8 kV8 dc8 pm8 cd8 ct8 : Value} (a8 : PySem.W.nsIn K mainGlobals "are_contents" = some (some (.ref f8))) (l8 : K.lookup f8 = some ⟨oc8, od8, .func (PySem.W.fnOf "are_contents" "are_contents" (defArgs sCont) (defBody sCont) (defScope sCont) .none kV8 dc8 pm8 an8 cd8 ct8), sl8⟩) (c8 : PySem.W.codeIn K cd8 "are_contents" = true) (k8 : PySem.W.keepIn K (.ref f8) = true)
    {od9 an9 : Option Addr} {sl9 : Array (Option Value)} {oc9 kV9 dc9 pm9 cd9 ct9 : Value} (a9 : PySem.W.nsIn K mainGlobals "check_contents" = some (some (.ref f9))) (l9 : K.lookup f9 = some ⟨oc9, od9, .func (PySem.W.fnOf "check_contents" "check_contents" (defArgs sCheckContents) (defBody sCheckContents) (defScope sCheckContents) .none kV9 dc9 pm9 an9 cd9 ct9), sl9⟩) (c9 : PySem.W.codeIn K cd9 "check_contents" = true) (k9 : PySem.W.keepIn K (.ref f9) = true)
    {od10 an10 : Option Addr} {sl10 : Array (Option Value)} {oc10 kV10 dc10 pm10 cd10 ct10 : Value} (a10 : PySem.W.nsIn K mainGlobals "sorted_files" = some (some (.ref f10))) (l10 : K.lookup f10 = some ⟨oc10, od10, .func (PySem.W.fnOf "sorted_files" "sorted_files" (defArgs sSrtF) (defBody sSrtF) (defScope sSrtF) .none kV10 dc10 pm10 an10 cd10 ct10), sl10⟩) (c10 : PySem.W.codeIn K cd10 "sorted_files" = true) (k10 : PySem.W.keepIn K (.ref f10) = true)
    {od11 an11 : Option Addr} {sl11 : Array (Option Value)} {oc11 kV11 dc11 pm11 cd11 ct11 : Value} (a11 : PySem.W.nsIn K mainGlobals "run" = some (some (.ref f11))) (l11 : K.lookup f11 = some ⟨oc11, od11, .func (PySem.W.fnOf "run" "run" (defArgs sRun) (defBody sRun) (defScope sRun) .none kV11 dc11 pm11 an11 cd11 ct11), sl11⟩) (c11 : PySem.W.codeIn K cd11 "run" = true) (k11 : PySem.W.keepIn K (.ref f11) = true)
    {od12 an12 : Option Addr} {sl12 : Array (Option Value)} {oc12 kV12 dc12 pm12 cd12 ct12 : Value} (a12 : PySem.W.nsIn K mainGlobals "_law_jar" = some (some (.ref f12))) (l12 : K.lookup f12 = some ⟨oc12, od12, .func (PySem.W.fnOf "_law_jar" "_law_jar" (defArgs sJar) (defBody sJar) (defScope sJar) .none kV12 dc12 pm12 an12 cd12 ct12), sl12⟩) (c12 : PySem.W.codeIn K cd12 "_law_jar" = true) (k12 : PySem.W.keepIn K (.ref f12) = true)
    {od13 an13 : Option Addr} {sl13 : Array (Option Value)} {oc13 kV13 dc13 pm13 cd13 ct13 : Value} (a13 : PySem.W.nsIn K mainGlobals "_law_dip" = some (some (.ref f13))) (l13 : K.lookup f13 = some ⟨oc13, od13, .func (PySem.W.fnOf "_law_dip" "_law_dip" (defArgs sDip) (defBody sDip) (defScope sDip) .none kV13 dc13 pm13 an13 cd13 ct13), sl13⟩) (c13 : PySem.W.codeIn K cd13 "_law_dip" = true) (k13 : PySem.W.keepIn K (.ref f13) = true)
    {od14 an14 : Option Addr} {sl14 : Array (Option Value)} {oc14 kV14 dc14 pm14 cd14 ct14 : Value} (a14 : PySem.W.nsIn K mainGlobals "_law_names" = some (some (.ref f14))) (l14 : K.lookup f14 = some ⟨oc14, od14, .func (PySem.W.fnOf "_law_names" "_law_names" (defArgs sNames) (defBody sNames) (defScope sNames) .none kV14 dc14 pm14 an14 cd14 ct14), sl14⟩) (c14 : PySem.W.codeIn K cd14 "_law_names" = true) (k14 : PySem.W.keepIn K (.ref f14) = true)
    {od15 an15 : Option Addr} {sl15 : Array (Option Value)} {oc15 kV15 dc15 pm15 cd15 ct15 : Value} (a15 : PySem.W.nsIn K mainGlobals "_law_plan" = some (some (.ref f15))) (l15 : K.lookup f15 = some ⟨oc15, od15, .func (PySem.W.fnOf "_law_plan" "_law_plan" (defArgs sPlan) (defBody sPlan) (defScope sPlan) .none kV15 dc15 pm15 an15 cd15 ct15), sl15⟩) (c15 : PySem.W.codeIn K cd15 "_law_plan" = true) (k15 : PySem.W.keepIn K (.ref f15) = true)
    {od16 an16 : Option Addr} {sl16 : Array (Option Value)} {oc16 kV16 dc16 pm16 cd16 ct16 : Value} (a16 : PySem.W.nsIn K mainGlobals "_law_path" = some (some (.ref f16))) (l16 : K.lookup f16 = some ⟨oc16, od16, .func (PySem.W.fnOf "_law_path" "_law_path" (defArgs sLPath) (defBody sLPath) (defScope sLPath) .none kV16 dc16 pm16 an16 cd16 ct16), sl16⟩) (c16 : PySem.W.codeIn K cd16 "_law_path" = true) (k16 : PySem.W.keepIn K (.ref f16) = true)
    {od17 an17 : Option Addr} {sl17 : Array (Option Value)} {oc17 kV17 dc17 pm17 cd17 ct17 : Value} (a17 : PySem.W.nsIn K mainGlobals "_law_contents" = some (some (.ref f17))) (l17 : K.lookup f17 = some ⟨oc17, od17, .func (PySem.W.fnOf "_law_contents" "_law_contents" (defArgs sLCont) (defBody sLCont) (defScope sLCont) .none kV17 dc17 pm17 an17 cd17 ct17), sl17⟩) (c17 : PySem.W.codeIn K cd17 "_law_contents" = true) (k17 : PySem.W.keepIn K (.ref f17) = true)
    {od18 an18 : Option Addr} {sl18 : Array (Option Value)} {oc18 kV18 dc18 pm18 cd18 ct18 : Value} (a18 : PySem.W.nsIn K mainGlobals "_law_run" = some (some (.ref f18))) (l18 : K.lookup f18 = some ⟨oc18, od18, .func (PySem.W.fnOf "_law_run" "_law_run" (defArgs sLRun) (defBody sLRun) (defScope sLRun) .none kV18 dc18 pm18 an18 cd18 ct18), sl18⟩) (c18 : PySem.W.codeIn K cd18 "_law_run" = true) (k18 : PySem.W.keepIn K (.ref f18) = true)
    {od19 an19 : Option Addr} {sl19 : Array (Option Value)} {oc19 kV19 dc19 pm19 cd19 ct19 : Value} (a19 : PySem.W.nsIn K mainGlobals "_law_turned" = some (some (.ref f19))) (l19 : K.lookup f19 = some ⟨oc19, od19, .func (PySem.W.fnOf "_law_turned" "_law_turned" (defArgs sTurn) (defBody sTurn) (defScope sTurn) .none kV19 dc19 pm19 an19 cd19 ct19), sl19⟩) (c19 : PySem.W.codeIn K cd19 "_law_turned" = true) (k19 : PySem.W.keepIn K (.ref f19) = true)
    {od20 an20 : Option Addr} {sl20 : Array (Option Value)} {oc20 kV20 dc20 pm20 cd20 ct20 : Value} (a20 : PySem.W.nsIn K mainGlobals "law" = some (some (.ref f20))) (l20 : K.lookup f20 = some ⟨oc20, od20, .func (PySem.W.fnOf "law" "law" (defArgs sLaw) (defBody sLaw) (defScope sLaw) .none kV20 dc20 pm20 an20 cd20 ct20), sl20⟩) (c20 : PySem.W.codeIn K cd20 "law" = true) (k20 : PySem.W.keepIn K (.ref f20) = true)
    {tx1 : Tok} (w1 : PySem.W.nsIn K mainGlobals "LONGEST_NAME" = some (some (.int 8 tx1)))
    {tx2 : Tok} (w2 : PySem.W.nsIn K mainGlobals "MOST_FOLDERS" = some (some (.int 20 tx2)))
    {aw3 : Addr} {odw3 : Option Addr} {slw3 : Array (Option Value)} {itsw3 : Array Value} {nw3 : Nat} {tx3a tx3b : Tok} (w3 : PySem.W.nsIn K mainGlobals "WORDS" = some (some (.ref aw3))) (wl3 : K.lookup aw3 = some ⟨.type "tuple", odw3, .seq itsw3 nw3, slw3⟩) (we3 : itsw3 = #[.str (Str.ofString "over") tx3a, .str (Str.ofString "skip") tx3b])
    {tx4 : Tok} (w4 : PySem.W.nsIn K mainGlobals "MOST_COPIES" = some (some (.int 200 tx4)))
    {tx5 : Tok} (w5 : PySem.W.nsIn K mainGlobals "LONGEST_PATH" = some (some (.int 20 tx5)))
    {tx6 : Tok} (w6 : PySem.W.nsIn K mainGlobals "PATH_SIGNS" = some (some (.str (Str.ofString "abcdefghijklmnopqrstuvwxyz0123456789./") tx6)))
    {tx7 : Tok} (w7 : PySem.W.nsIn K mainGlobals "MOST_FILES" = some (some (.int 40 tx7)))
    (z1 : PySem.W.nsIn K mainGlobals "len" = some none) (z2 : PySem.W.nsIn K mainGlobals "list" = some none) (z3 : PySem.W.nsIn K mainGlobals "tuple" = some none) (z4 : PySem.W.nsIn K mainGlobals "range" = some none) (z5 : PySem.W.nsIn K mainGlobals "abs" = some none) (z6 : PySem.W.nsIn K mainGlobals "max" = some none) (z7 : PySem.W.nsIn K mainGlobals "min" = some none) (z8 : PySem.W.nsIn K mainGlobals "int" = some none) (z9 : PySem.W.nsIn K mainGlobals "isinstance" = some none) (z10 : PySem.W.nsIn K mainGlobals "str" = some none) (z11 : PySem.W.nsIn K mainGlobals "all" = some none) (z12 : PySem.W.nsIn K mainGlobals "repr" = some none) (z13 : PySem.W.nsIn K mainGlobals "set" = some none) (z14 : PySem.W.nsIn K mainGlobals "sorted" = some none) (z15 : PySem.W.nsIn K mainGlobals "dict" = some none) :
    ∃ fd : FuncData, (∀ (s : Shared) (v : Value), BindsTo s fd ⟨[v], []⟩ [("script", v)]) ∧ ∀ base : Heap, K.In base → base.Ns mainGlobals mg → FnG l.prog w K mg base CX0 6 fa fd ["script"] (spLaw K) := by
  have e := hfa.symm.trans (PySem.W.mg_of X G a20)
  cases e
  have F1 := fun_mk (st := sName) l1 c1 k1
  have b1 := F1.binds (ps := ["value"]) fun _ _ _ _ _ _ us hl => match us, hl with | [_], _ => rfl
  have m1 := PySem.W.mg_of X G a1
  have F2 := fun_mk (st := sHasNames) l2 c2 k2
  have b2 := F2.binds (ps := ["value"]) fun _ _ _ _ _ _ us hl => match us, hl with | [_], _ => rfl
  have m2 := PySem.W.mg_of X G a2
  have F3 := fun_mk (st := sCopy) l3 c3 k3
  have b3 := F3.binds (ps := ["value"]) fun _ _ _ _ _ _ us hl => match us, hl with | [_], _ => rfl
  have m3 := PySem.W.mg_of X G a3
  have F4 := fun_mk (st := sScript) l4 c4 k4
  have b4 := F4.binds (ps := ["value"]) fun _ _ _ _ _ _ us hl => match us, hl with | [_], _ => rfl
  have m4 := PySem.W.mg_of X G a4
  have F5 := fun_mk (st := sChkS) l5 c5 k5
  have b5 := F5.binds (ps := ["copies", "folders"]) fun _ _ _ _ _ _ us hl => match us, hl with | [_, _], _ => rfl
  have m5 := PySem.W.mg_of X G a5
  have F6 := fun_mk (st := sPath) l6 c6 k6
  have b6 := F6.binds (ps := ["value"]) fun _ _ _ _ _ _ us hl => match us, hl with | [_], _ => rfl
  have m6 := PySem.W.mg_of X G a6
  have F7 := fun_mk (st := sFiles) l7 c7 k7
  have b7 := F7.binds (ps := ["value"]) fun _ _ _ _ _ _ us hl => match us, hl with | [_], _ => rfl
  have m7 := PySem.W.mg_of X G a7
  have F8 := fun_mk (st := sCont) l8 c8 k8
  have b8 := F8.binds (ps := ["value"]) fun _ _ _ _ _ _ us hl => match us, hl with | [_], _ => rfl
  have m8 := PySem.W.mg_of X G a8
  have F9 := fun_mk (st := sCheckContents) l9 c9 k9
  have b9 := F9.binds (ps := ["contents"]) fun _ _ _ _ _ _ us hl => match us, hl with | [_], _ => rfl
  have m9 := PySem.W.mg_of X G a9
  have F10 := fun_mk (st := sSrtF) l10 c10 k10
  have b10 := F10.binds (ps := ["files"]) fun _ _ _ _ _ _ us hl => match us, hl with | [_], _ => rfl
  have m10 := PySem.W.mg_of X G a10
  have F11 := fun_mk (st := sRun) l11 c11 k11
  have b11 := F11.binds (ps := ["contents", "copies"]) fun _ _ _ _ _ _ us hl => match us, hl with | [_, _], _ => rfl
  have m11 := PySem.W.mg_of X G a11
  have F12 := fun_mk (st := sJar) l12 c12 k12
  have b12 := F12.binds (ps := ["cells", "k"]) fun _ _ _ _ _ _ us hl => match us, hl with | [_, _], _ => rfl
  have m12 := PySem.W.mg_of X G a12
  have F13 := fun_mk (st := sDip) l13 c13 k13
  have b13 := F13.binds (ps := ["jar", "many"]) fun _ _ _ _ _ _ us hl => match us, hl with | [_, _], _ => rfl
  have m13 := PySem.W.mg_of X G a13
  have F14 := fun_mk (st := sNames) l14 c14 k14
  have b14 := F14.binds (ps := ["jar", "many"]) fun _ _ _ _ _ _ us hl => match us, hl with | [_, _], _ => rfl
  have m14 := PySem.W.mg_of X G a14
  have F15 := fun_mk (st := sPlan) l15 c15 k15
  have b15 := F15.binds (ps := ["jar", "names_here", "most"]) fun _ _ _ _ _ _ us hl => match us, hl with | [_, _, _], _ => rfl
  have m15 := PySem.W.mg_of X G a15
  have F16 := fun_mk (st := sLPath) l16 c16 k16
  have b16 := F16.binds (ps := ["jar"]) fun _ _ _ _ _ _ us hl => match us, hl with | [_], _ => rfl
  have m16 := PySem.W.mg_of X G a16
  have F17 := fun_mk (st := sLCont) l17 c17 k17
  have b17 := F17.binds (ps := ["jar", "names_here", "most"]) fun _ _ _ _ _ _ us hl => match us, hl with | [_, _, _], _ => rfl
  have m17 := PySem.W.mg_of X G a17
  have F18 := fun_mk (st := sLRun) l18 c18 k18
  have b18 := F18.binds (ps := ["contents_here", "plan"]) fun _ _ _ _ _ _ us hl => match us, hl with | [_, _], _ => rfl
  have m18 := PySem.W.mg_of X G a18
  have F19 := fun_mk (st := sTurn) l19 c19 k19
  have b19 := F19.binds (ps := ["contents_here"]) fun _ _ _ _ _ _ us hl => match us, hl with | [_], _ => rfl
  have m19 := PySem.W.mg_of X G a19
  have F20 := fun_mk (st := sLaw) l20 c20 k20
  have B : Bl mg := ⟨PySem.W.mg_none_of X G z1, PySem.W.mg_none_of X G z2, PySem.W.mg_none_of X G z3, PySem.W.mg_none_of X G z4, PySem.W.mg_none_of X G z5, PySem.W.mg_none_of X G z6, PySem.W.mg_none_of X G z7, PySem.W.mg_none_of X G z8, PySem.W.mg_none_of X G z9, PySem.W.mg_none_of X G z10, PySem.W.mg_none_of X G z11, PySem.W.mg_none_of X G z12, PySem.W.mg_none_of X G z13, PySem.W.mg_none_of X G z14, PySem.W.mg_none_of X G z15⟩
  have GB : Gb K mg := ⟨⟨_, (PySem.W.mg_of X G w1)⟩, ⟨_, (PySem.W.mg_of X G w4)⟩, _, (PySem.W.mg_of X G w3), fun H => .inr ⟨_, _, _, wl3, rfl, rfl, by rw [we3]; exact (by decide : 2 ≤ sizeLine), by rw [we3]; exact .cons ⟨_, rfl⟩ (.cons ⟨_, rfl⟩ .nil)⟩⟩
  have GC : Gc mg := ⟨⟨_, (PySem.W.mg_of X G w5)⟩, ⟨_, (PySem.W.mg_of X G w6)⟩, ⟨_, (PySem.W.mg_of X G w7)⟩, ⟨_, (PySem.W.mg_of X G w2)⟩⟩
  refine ⟨PySem.W.fnOf "law" "law" (defArgs sLaw) (defBody sLaw) (defScope sLaw) .none kV20 dc20 pm20 an20 cd20 ct20, fun s v => .of_eq rfl, fun base _ _ => ?_⟩
  have DNm : Has l.prog w K mg base CX0 1 "is_name" ["value"] (spD K isNameD) := has_of (ok_name F1 B GB) m1 F1 b1
  have DC : Has l.prog w K mg base CX0 2 "is_copy" ["value"] (spD K isCopyD) := has_of (ok_copy F3 B GB DNm) m3 F3 b3
  have DSc : Has l.prog w K mg base CX0 3 "is_script" ["value"] (spD K isScriptD) := has_of (ok_script F4 B GB DC) m4 F4 b4
  have DCs : Has l.prog w K mg base CX0 4 "check_script" ["copies", "folders"] (spChkS K) := has_of (ok_chkS F5 B DSc) m5 F5 b5
  have DPt : Has l.prog w K mg base CX0 1 "is_path" ["value"] spPath := has_of (ok_path F6 B GC) m6 F6 b6
  have DFil : Has l.prog w K mg base CX0 2 "are_files" ["value"] spFiles := has_of (ok_files F7 B GC DPt) m7 F7 b7
  have DHn : Has l.prog w K mg base CX0 2 "has_names" ["value"] (spHasN K) := has_of (ok_hasN F2 B ⟨_, (PySem.W.mg_of X G w2)⟩ DNm) m2 F2 b2
  have DCt : Has l.prog w K mg base CX0 3 "are_contents" ["value"] spCont := has_of (ok_cont F8 B DHn DFil) m8 F8 b8
  have DSf : Has l.prog w K mg base CX0 1 "sorted_files" ["files"] spSrtF := has_of (ok_srtF F10 B) m10 F10 b10
  have DCkc : Has l.prog w K mg base CX0 4 "check_contents" ["contents"] spChkCt := has_of (ok_chkCt F9 DCt) m9 F9 b9
  have OR := ok_run (P := l.prog) (w := w) (base := base) F11 B DCkc DCs DSf
  have DR : Has l.prog w K mg base CX0 5 "run" ["contents", "copies"] (spRun K) := has_of (OR) m11 F11 b11
  have DJ : Has l.prog w K mg base CX0 1 "_law_jar" ["cells", "k"] (spJar K) := has_of (ok_jar F12 B) m12 F12 b12
  have DD : Has l.prog w K mg base CX0 1 "_law_dip" ["jar", "many"] spDip := has_of (ok_dip F13) m13 F13 b13
  have DN : Has l.prog w K mg base CX0 2 "_law_names" ["jar", "many"] spNames := has_of (ok_names F14 B DD) m14 F14 b14
  have DP : Has l.prog w K mg base CX0 2 "_law_plan" ["jar", "names_here", "most"] (spPlan K) := has_of (ok_plan F15 B DD) m15 F15 b15
  have DLp : Has l.prog w K mg base CX0 2 "_law_path" ["jar"] spLP := has_of (ok_lpath F16 B DD) m16 F16 b16
  have DLc : Has l.prog w K mg base CX0 3 "_law_contents" ["jar", "names_here", "most"] (spLC K) := has_of (ok_lcont F17 B DD DLp) m17 F17 b17
  have DLr : Has l.prog w K mg base CX0 1 "_law_run" ["contents_here", "plan"] (spLRun K) := has_of (ok_lrun F18 B) m18 F18 b18
  have DTu : Has l.prog w K mg base CX0 1 "_law_turned" ["contents_here"] spTurn := has_of (ok_turn F19 B) m19 F19 b19
  exact ok_law F20 B DJ DD DN DP DLc DLr DTu DR (hasK2 OR m11 F11 fun s u v => .of_eq rfl)
end Cv
open PySem PySem.W PyProof.Rows
set_option maxHeartbeats 0 in
theorem PySem.Challenge.cw_copyover_k08_contents_run_holds : PySem.Challenge.rw_copyover_k08_contents_run.Holds := by
  w_on; o_law; k_head; (case hw => w_witness2)
  k_fill
  refine Cv.walk_gd (l := PySem.Challenge.rw_copyover_k08_contents_run) (n := 63) (k := 6) (x := "script") (CX := fun _ => L2.CX0) (sp := fun w => Cv.spLaw _) rfl (by decide) rfl ⟨rfl, by decide, by decide⟩ (fun w h Y => PySem.W.kIn_of Y) ?F (fun _ _ a ns hl _ hS => ⟨a, ns, rfl, hS, hl, fun _ => rfl⟩) (fun _ _ _ _ _ h => h)
  case F =>
    intro w mg fa h KX G hmg
    refine' Cv.all_mk KX G hmg ?a1 ?l1 ?c1 ?k1 ?a2 ?l2 ?c2 ?k2 ?a3 ?l3 ?c3 ?k3 ?a4 ?l4 ?c4 ?k4 ?a5 ?l5 ?c5 ?k5 ?a6 ?l6 ?c6 ?k6 ?a7 ?l7 ?c7 ?k7 ?a8 ?l8 ?c8 ?k8 ?a9 ?l9 ?c9 ?k9 ?a10 ?l10 ?c10 ?k10 ?a11 ?l11 ?c11 ?k11 ?a12 ?l12 ?c12 ?k12 ?a13 ?l13 ?c13 ?k13 ?a14 ?l14 ?c14 ?k14 ?a15 ?l15 ?c15 ?k15 ?a16 ?l16 ?c16 ?k16 ?a17 ?l17 ?c17 ?k17 ?a18 ?l18 ?c18 ?k18 ?a19 ?l19 ?c19 ?k19 ?a20 ?l20 ?c20 ?k20 ?w1 ?w2 ?w3 ?wl3 ?we3 ?w4 ?w5 ?w6 ?w7 ?z1 ?z2 ?z3 ?z4 ?z5 ?z6 ?z7 ?z8 ?z9 ?z10 ?z11 ?z12 ?z13 ?z14 ?z15
    (case a1 => k_is); (case l1 => k_is); (case c1 => k_is); (case k1 => k_is); (case a2 => k_is); (case l2 => k_is); (case c2 => k_is); (case k2 => k_is); (case a3 => k_is); (case l3 => k_is); (case c3 => k_is); (case k3 => k_is); (case a4 => k_is); (case l4 => k_is); (case c4 => k_is); (case k4 => k_is); (case a5 => k_is); (case l5 => k_is); (case c5 => k_is); (case k5 => k_is); (case a6 => k_is); (case l6 => k_is); (case c6 => k_is); (case k6 => k_is); (case a7 => k_is); (case l7 => k_is); (case c7 => k_is); (case k7 => k_is); (case a8 => k_is); (case l8 => k_is); (case c8 => k_is); (case k8 => k_is); (case a9 => k_is); (case l9 => k_is); (case c9 => k_is); (case k9 => k_is); (case a10 => k_is); (case l10 => k_is); (case c10 => k_is); (case k10 => k_is); (case a11 => k_is); (case l11 => k_is); (case c11 => k_is); (case k11 => k_is); (case a12 => k_is); (case l12 => k_is); (case c12 => k_is); (case k12 => k_is); (case a13 => k_is); (case l13 => k_is); (case c13 => k_is); (case k13 => k_is); (case a14 => k_is); (case l14 => k_is); (case c14 => k_is); (case k14 => k_is); (case a15 => k_is); (case l15 => k_is); (case c15 => k_is); (case k15 => k_is); (case a16 => k_is); (case l16 => k_is); (case c16 => k_is); (case k16 => k_is); (case a17 => k_is); (case l17 => k_is); (case c17 => k_is); (case k17 => k_is); (case a18 => k_is); (case l18 => k_is); (case c18 => k_is); (case k18 => k_is); (case a19 => k_is); (case l19 => k_is); (case c19 => k_is); (case k19 => k_is); (case a20 => k_is); (case l20 => k_is); (case c20 => k_is); (case k20 => k_is); (case w1 => k_is); (case w2 => k_is); (case w3 => k_is); (case wl3 => k_is); (case we3 => rfl); (case w4 => k_is); (case w5 => k_is); (case w6 => k_is); (case w7 => k_is); (case z1 => k_is); (case z2 => k_is); (case z3 => k_is); (case z4 => k_is); (case z5 => k_is); (case z6 => k_is); (case z7 => k_is); (case z8 => k_is); (case z9 => k_is); (case z10 => k_is); (case z11 => k_is); (case z12 => k_is); (case z13 => k_is); (case z14 => k_is); (case z15 => k_is)
