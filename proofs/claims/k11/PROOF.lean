import PyProof.Rows.All
import Wide.All
import OpenK.AllK
import Wide.FinOn
import HandS.Base
import HandS.Call
import HandS.List
import HandS.Comp
import HandS.Ends
import HandS.Dict
import HandS.Iter
import HandS.Text
import HandS.Words
import HandS.EndBits
import PyProof.ReprRoads
import PyProof.NeKinds
import HandS.ForMost
import HandS.IsInst
import HandS.TupAny
import HandS.TupMul
import HandS.Style
import HandS.More
import HandS.Wide
import HandS.SetKeys
import HandS.Strs
import HandS.DictComp
import PyProof.Rows.SortShellAny
import HandS.Finally
import KE.GoesMore
import KE.GoesEnum
import HandS.Zip
import HandS.Walk
import HandS.SetTxt0
import HandS.Set
import HandS.SetFor
import PyProof.DictUpdate
import PyProof.DictTable
import PyProof.TupleOfGen
import KE.KDictSum
import PyProof.SliceList
import PyProof.StrOps2
import HandS.DeepEq
import HandS.Codes
import HandS.WordsDict
import PySem.Challenge.RW_copyover_k11_whole_contents_and_lists
set_option Elab.async false
set_option linter.all false
/-! part B0 -/
set_option maxRecDepth 100000
set_option maxHeartbeats 4000000
namespace Cv
open PySem PySem.Spec PyProof.Rows L2

/-! ### what may change -/
/-- all that stood stands, but what is at j -/
def Eff (j : Addr) (H H' : Hp) : Prop := ∀ b o, b ≠ j → H b = some o → H' b = some o
theorem Eff.refl (j : Addr) (H : Hp) : Eff j H H := fun _ _ _ e => e
theorem Eff.trans {j : Addr} {H H1 H2 : Hp} (a : Eff j H H1) (b : Eff j H1 H2) : Eff j H H2 := fun x o n e => b x o n (a x o n e)
theorem Eff.same {j : Addr} {H H' : Hp} (a : Same H H') : Eff j H H' := fun x o _ e => a x o e
theorem Eff.atj {j : Addr} {H H' : Hp} {o : HO} (a : Eff j H H') : Eff j H (upd H' j o) := fun x u n e => (upd_ne n).trans (a x u n e)
theorem Eff.new {j p : Addr} {H H' : Hp} {o : HO} (a : Eff j H H') (h : H p = none) : Eff j H (upd H' p o) := fun x u n e =>
  (upd_ne (ne_of_none e h)).trans (a x u n e)
theorem Eff.free {j p : Addr} {H H' : Hp} (a : Eff j H H') (n : p ≠ j) (h : H' p = none) : H p = none := by
  cases q : H p with
  | none => rfl
  | some o =>
    have z := a p o n q
    rw [h] at z
    cases z
theorem same_new {H : Hp} {p : Addr} {o : HO} (h : H p = none) : Same H (upd H p o) := fun b u e => (upd_ne (ne_of_none e h)).trans e
theorem same_up {H H' : Hp} {p : Addr} {o : HO} (a : Same H H') (h : H p = none) : Same H (upd H' p o) := fun b u e =>
  (upd_ne (ne_of_none e h)).trans (a b u e)
theorem same_free {H H' : Hp} {p : Addr} (a : Same H H') (h : H' p = none) : H p = none := a.free h

/-! ### data of any depth, that does not reach j -/
def keyD : Key → PyData
  | .inl i => .int i
  | .inr x => .str x
mutual
inductive Dx (K : PySem.W.Frag) (H : Hp) (j : Addr) : V → PyData → Prop
  | non : Dx K H j .non .none
  | bl (b : Bool) : Dx K H j (.bl b) (.bool b)
  | int (i : Int) : Dx K H j (.int i) (.int i)
  | str (x : Str) : Dx K H j (.str x) (.str x)
  | lst {a : Addr} {xs : List V} {ds : List PyData} : a ≠ j → SqL K H a xs → DxAll K H j xs ds → Dx K H j (.ref a) (.list ds)
  | tup {a : Addr} {xs : List V} {ds : List PyData} : a ≠ j → SqT K H a xs → DxAll K H j xs ds → Dx K H j (.ref a) (.tuple ds)
  | dic {a : Addr} {kvs : List (Key × V)} {es : List (PyData × PyData)} : a ≠ j → H a = some (.dK kvs) → DxKv K H j kvs es → Dx K H j (.ref a) (.dict es)
inductive DxAll (K : PySem.W.Frag) (H : Hp) (j : Addr) : List V → List PyData → Prop
  | nil : DxAll K H j [] []
  | cons {v : V} {vs : List V} {d : PyData} {ds : List PyData} : Dx K H j v d → DxAll K H j vs ds → DxAll K H j (v :: vs) (d :: ds)
inductive DxKv (K : PySem.W.Frag) (H : Hp) (j : Addr) : List (Key × V) → List (PyData × PyData) → Prop
  | nil : DxKv K H j [] []
  | cons {k : Key} {v : V} {r : List (Key × V)} {d : PyData} {es : List (PyData × PyData)} : Dx K H j v d → DxKv K H j r es → DxKv K H j ((k, v) :: r) ((keyD k, d) :: es)
end
theorem eff_rd {j a : Addr} {H H' : Hp} {u : HO} (e : Eff j H H') (n : a ≠ j) (h : Rd H a u) : Rd H' a u := by
  rcases h with h | ⟨o, h⟩
  · exact .inl (e a _ n h)
  · exact .inr ⟨o, e a _ n h⟩
theorem eff_l {K : PySem.W.Frag} {j a : Addr} {H H' : Hp} {xs : List V} (e : Eff j H H') (n : a ≠ j) (h : SqL K H a xs) : SqL K H' a xs := by
  rcases h with h | h
  · exact .inl (eff_rd e n h)
  · exact .inr h
theorem eff_t {K : PySem.W.Frag} {j a : Addr} {H H' : Hp} {xs : List V} (e : Eff j H H') (n : a ≠ j) (h : SqT K H a xs) : SqT K H' a xs := by
  rcases h with h | h
  · exact .inl (eff_rd e n h)
  · exact .inr h
section
variable {K : PySem.W.Frag} {H H' : Hp} {j : Addr}
mutual
theorem Dx.keep (e : Eff j H H') : ∀ (d : PyData) (v : V), Dx K H j v d → Dx K H' j v d
  | .none, _, h => by cases h; exact .non
  | .bool b, _, h => by cases h; exact .bl _
  | .int i, _, h => by cases h; exact .int _
  | .str x, _, h => by cases h; exact .str _
  | .list ds, _, h => by
    cases h with
    | lst n s a => exact .lst n (eff_l e n s) (DxAll.keep e ds _ a)
  | .tuple ds, _, h => by
    cases h with
    | tup n s a => exact .tup n (eff_t e n s) (DxAll.keep e ds _ a)
  | .dict es, _, h => by
    cases h with
    | dic n s a => exact .dic n (e _ _ n s) (DxKv.keep e es _ a)
theorem DxAll.keep (e : Eff j H H') : ∀ (ds : List PyData) (vs : List V), DxAll K H j vs ds → DxAll K H' j vs ds
  | [], _, h => by cases h; exact .nil
  | d :: ds, _, h => by
    cases h with
    | cons h1 h2 => exact .cons (Dx.keep e d _ h1) (DxAll.keep e ds _ h2)
theorem DxKv.keep (e : Eff j H H') : ∀ (es : List (PyData × PyData)) (kvs : List (Key × V)), DxKv K H j kvs es → DxKv K H' j kvs es
  | [], _, h => by cases h; exact .nil
  | (k, d) :: es, _, h => by
    cases h with
    | cons h1 h2 => exact .cons (Dx.keep e d _ h1) (DxKv.keep e es _ h2)
end
end

/-! ### what the library's own rules ask of such data -/
section
variable {X : Cx} {pins : List (Addr × Obj)} {σ : L2.St} {H : Hp} {s : Shared} {j : Addr}
theorem key_reads (h : Heap) {k : Key} {u : Value} (r : keyIs k u = true) : Reads h u (keyD k) [] := by
  rcases keyIs_shape r with ⟨i, t, rfl, rfl⟩ | ⟨x, t, rfl, rfl⟩
  · exact Reads.int i t
  · exact Reads.str x t
mutual
theorem Dx.reads (I : Inv X pins σ H s) : ∀ (d : PyData) (v : V) (u : Value), Dx X.K H j v d → RelV v u → ∃ as, Reads s.heap u d as
  | .none, _, _, h, r => by
    cases h; cases r
    exact ⟨_, Reads.none⟩
  | .bool b, _, _, h, r => by
    cases h; cases r
    exact ⟨_, Reads.bool b⟩
  | .int i, _, _, h, r => by
    cases h
    obtain ⟨t, rfl⟩ := r
    exact ⟨_, Reads.int i t⟩
  | .str x, _, _, h, r => by
    cases h
    obtain ⟨t, rfl⟩ := r
    exact ⟨_, Reads.str x t⟩
  | .list ds, _, _, h, r => by
    cases h with
    | lst _ hs ha =>
      cases r
      obtain ⟨its, rv, ⟨o, n, ho, hc, _, hd⟩, _⟩ := I.list hs
      obtain ⟨as, hr⟩ := DxAll.reads I ds _ its ha rv
      exact ⟨_, Reads.list ho hc hd hr⟩
  | .tuple ds, _, _, h, r => by
    cases h with
    | tup _ hs ha =>
      cases r
      obtain ⟨its, rv, ⟨o, ho, hc, n, hd⟩, _⟩ := I.tuple hs
      obtain ⟨as, hr⟩ := DxAll.reads I ds _ its ha rv
      exact ⟨_, Reads.tuple ho hc hd hr⟩
  | .dict es, _, _, h, r => by
    cases h with
    | dic _ hs ha =>
      cases r
      obtain ⟨_, _, vs, kv, o, en, ep, ho, hx, hd, _, hp, _⟩ := dk_of I.hok hs
      obtain ⟨as, bs, h1, h2⟩ := DxKv.reads I es _ vs _ ha kv hp
      exact ⟨_, Reads.dict ho hx.1 hd h1 h2⟩
theorem DxAll.reads (I : Inv X pins σ H s) : ∀ (ds : List PyData) (vs : List V) (us : List Value), DxAll X.K H j vs ds → Vals vs us → ∃ as, ReadsAll s.heap us ds as
  | [], _, _, h, r => by
    cases h; cases r
    exact ⟨_, ReadsAll.nil⟩
  | d :: ds, _, _, h, r => by
    cases h with
    | cons h1 h2 =>
      cases r with
      | cons r1 r2 =>
        obtain ⟨as, q1⟩ := Dx.reads I d _ _ h1 r1
        obtain ⟨bs, q2⟩ := DxAll.reads I ds _ _ h2 r2
        exact ⟨_, ReadsAll.cons q1 q2⟩
theorem DxKv.reads (I : Inv X pins σ H s) : ∀ (es : List (PyData × PyData)) (kvs : List (Key × V)) (vs : List (Key × Value)) (en : List DictEntry), DxKv X.K H j kvs es → KV kvs vs → Pairs (mixKind X.prog X.w) en vs →
    ∃ as bs, ReadsAll s.heap (en.map (·.key)) (es.map (·.1)) as ∧ ReadsAll s.heap (en.map (·.val)) (es.map (·.2)) bs
  | [], _, _, _, h, r, p => by
    cases h; cases r; cases p
    exact ⟨_, _, ReadsAll.nil, ReadsAll.nil⟩
  | (k, d) :: es, _, _, _, h, r, p => by
    cases h with
    | cons h1 h2 =>
      cases r with
      | cons r1 r2 =>
        cases p with
        | cons p1 p2 p3 =>
          obtain ⟨e1, r1⟩ := r1
          rw [← p2] at r1
          obtain ⟨as, q1⟩ := Dx.reads I d _ _ h1 r1
          obtain ⟨a2, b2, q2, q3⟩ := DxKv.reads I es _ _ _ h2 r2 p3
          have kr := key_reads s.heap (k := _) p1
          rw [← e1] at kr
          exact ⟨_, _, ReadsAll.cons kr q2, ReadsAll.cons q1 q3⟩
end
end

/-! ### its repr -/
section
variable {X : Cx} {pins : List (Addr × Obj)} {σ : L2.St} {H : Hp} {s : Shared} {j : Addr}
theorem kd_split {k : PyData × PyData} {kvs : List (PyData × PyData)} (h : PyData.showableKv (k :: kvs) = true) : k.1.showable = true ∧ k.2.showable = true ∧ PyData.showableKv kvs = true := by
  have h2 : (k.1.showable && k.2.showable && PyData.showableKv kvs) = true := by
    have h3 := h
    simp only [PyData.showableKv] at h3
    exact h3
  simp only [Bool.and_eq_true] at h2
  exact ⟨h2.1.1, h2.1.2, h2.2⟩
theorem key_repr {prog : Program} {w : World} (h : Heap) {k : Key} {u : Value} (r : keyIs k u = true) (hs : (keyD k).showable = true) (hz : (keyD k).shown.length ≤ sizeLine) (bs : List Addr) (n : Nat) : ReprK prog w bs h n u (keyD k).shown := by
  rcases keyIs_shape r with ⟨i, t, rfl, rfl⟩ | ⟨x, t, rfl, rfl⟩
  · have e : (keyD (.inl i)).shown = toString i := by simp only [keyD, PyData.shown]
    rw [e]
    exact .of_is (ReprIs.int t (by simpa [keyD, PyData.showable] using hs)) _ _ _
  · have e : (keyD (.inr x)).shown = reprText x := by simp only [keyD, PyData.shown]
    rw [e] at hz ⊢
    exact .of_is (ReprIs.str x t hz) _ _ _
theorem ent_more {prog : Program} {w : World} {h₀ : Heap} {as as' : List Addr} {d d' : Nat} (hsub : ∀ b ∈ as, b ∈ as') (hd : d ≤ d') : ∀ {l : List DictEntry} {ts : List Str}, ReprEntriesK prog w as h₀ d l ts → ReprEntriesK prog w as' h₀ d' l ts
  | _, _, .nil => .nil
  | _, _, .cons hk hv hl => .cons ((hk.more hsub).level_le hd) ((hv.more hsub).level_le hd) (ent_more hsub hd hl)
mutual
theorem Dx.repr {prog : Program} {w : World} (I : Inv X pins σ H s) : ∀ (d : PyData) (v : V) (u : Value), Dx X.K H j v d → RelV v u → d.showable = true → d.shown.length ≤ sizeLine →
    ∃ bs, ReadAtMost s.heap d.depth bs ∧ ReprK prog w bs s.heap d.depth u d.shown
  | .none, _, _, h, r, _, _ => by
    cases h; cases r
    exact ⟨[], (fun _ q => nomatch q), by simp only [PyData.shown]; exact .of_is ReprIs.none _ _ _⟩
  | .bool b, _, _, h, r, _, _ => by
    cases h; cases r
    exact ⟨[], (fun _ q => nomatch q), by simp only [PyData.shown]; exact .of_is (ReprIs.bool b) _ _ _⟩
  | .int i, _, _, h, r, hs, _ => by
    cases h
    obtain ⟨t, rfl⟩ := r
    exact ⟨[], (fun _ q => nomatch q), by simp only [PyData.shown]; exact .of_is (ReprIs.int t (by simpa [PyData.showable] using hs)) _ _ _⟩
  | .str x, _, _, h, r, _, hz => by
    cases h
    obtain ⟨t, rfl⟩ := r
    exact ⟨[], (fun _ q => nomatch q), by simp only [PyData.shown]; exact .of_is (ReprIs.str x t (by simpa only [PyData.shown] using hz)) _ _ _⟩
  | .list ds, v, u, h, r, hs, hz => by
    obtain ⟨as0, r0⟩ := Dx.reads I _ v u h r
    cases h with
    | lst _ hq ha =>
      cases r
      have hz' : (listText (PyData.shownAll ds)).length ≤ sizeLine := by simpa only [PyData.shown] using hz
      obtain ⟨its, rv, ⟨o, n, ho, hc, _, hd⟩, _⟩ := I.list hq
      obtain ⟨bs, hb, hk⟩ := DxAll.repr (prog := prog) (w := w) I ds _ its ha rv (by simpa [PyData.showable] using hs) (fun t ht => Nat.le_trans (listText_mem_le ht) hz')
      have hna := not_mem_of_deeper r0 (show PyData.depthAll ds < (PyData.list ds).depth by simp only [PyData.depth]; omega) hb
      refine ⟨_ :: bs, ReadAtMost.cons r0 (by simp only [PyData.depth]; omega) hb, ?_⟩
      simp only [PyData.depth, PyData.shown]
      cases its with
      | nil =>
        cases rv
        cases ha
        simp only [PyData.shownAll, listText_nil]
        exact ReprK.listEmpty ho hc hd
      | cons x l => exact ReprK.list ho hc hd hna (by simpa using hk.length_eq) (fun i y e => hk.item i y (by simpa using e))
  | .tuple ds, v, u, h, r, hs, hz => by
    obtain ⟨as0, r0⟩ := Dx.reads I _ v u h r
    cases h with
    | tup _ hq ha =>
      cases r
      have hz' : (tupleText (PyData.shownAll ds)).length ≤ sizeLine := by simpa only [PyData.shown] using hz
      obtain ⟨its, rv, ⟨o, ho, hc, n, hd⟩, _⟩ := I.tuple hq
      obtain ⟨bs, hb, hk⟩ := DxAll.repr (prog := prog) (w := w) I ds _ its ha rv (by simpa [PyData.showable] using hs) (fun t ht => Nat.le_trans (tupleText_mem_le ht) hz')
      have hna := not_mem_of_deeper r0 (show PyData.depthAll ds < (PyData.tuple ds).depth by simp only [PyData.depth]; omega) hb
      refine ⟨_ :: bs, ReadAtMost.cons r0 (by simp only [PyData.depth]; omega) hb, ?_⟩
      simp only [PyData.depth, PyData.shown]
      exact ReprK.tuple ho hc hd hna hk
  | .dict es, v, u, h, r, hs, hz => by
    obtain ⟨as0, r0⟩ := Dx.reads I _ v u h r
    cases h with
    | dic _ hq ha =>
      cases r
      have hz' : (dictText (PyData.shownKv es)).length ≤ sizeLine := by simpa only [PyData.shown] using hz
      obtain ⟨_, hsys, vs, kv, o, en, ep, ho, hx, hd, _, hp, _⟩ := dk_of I.hok hq
      obtain ⟨bs, hb, hk⟩ := DxKv.repr (prog := prog) (w := w) I es _ vs _ ha kv hp (by simpa [PyData.showable] using hs) (fun t ht => Nat.le_trans (dictText_mem_le ht) hz')
      have hna := not_mem_of_deeper r0 (show PyData.depthKv es < (PyData.dict es).depth by simp only [PyData.depth]; omega) hb
      refine ⟨_ :: bs, ReadAtMost.cons r0 (by simp only [PyData.depth]; omega) hb, ?_⟩
      simp only [PyData.depth, PyData.shown]
      exact ReprK.dict ho hx.1 hd hsys hna hk
theorem DxAll.repr {prog : Program} {w : World} (I : Inv X pins σ H s) : ∀ (ds : List PyData) (vs : List V) (us : List Value), DxAll X.K H j vs ds → Vals vs us → PyData.showableAll ds = true → (∀ t ∈ PyData.shownAll ds, t.length ≤ sizeLine) →
    ∃ bs, ReadAtMost s.heap (PyData.depthAll ds) bs ∧ ReprAllK prog w bs s.heap (PyData.depthAll ds) us (PyData.shownAll ds)
  | [], _, _, h, r, _, _ => by
    cases h; cases r
    exact ⟨[], (fun _ q => nomatch q), by simp only [PyData.shownAll]; exact .nil⟩
  | d :: ds, _, _, h, r, hs, hz => by
    cases h with
    | cons h1 h2 =>
      cases r with
      | cons r1 r2 =>
        have hs' : d.showable = true ∧ PyData.showableAll ds = true := by simpa [PyData.showableAll] using hs
        obtain ⟨b1, hb1, k1⟩ := Dx.repr (prog := prog) (w := w) I d _ _ h1 r1 hs'.1 (hz _ (by simp only [PyData.shownAll]; exact List.mem_cons_self ..))
        obtain ⟨b2, hb2, k2⟩ := DxAll.repr (prog := prog) (w := w) I ds _ _ h2 r2 hs'.2 (fun t ht => hz t (by simp only [PyData.shownAll]; exact List.mem_cons_of_mem _ ht))
        refine ⟨b1 ++ b2, ?_, ?_⟩
        · simp only [PyData.depthAll]
          exact (hb1.mono (Nat.le_max_left _ _)).append (hb2.mono (Nat.le_max_right _ _))
        · simp only [PyData.depthAll, PyData.shownAll]
          exact .cons ((k1.more fun b hb => List.mem_append_left _ hb).level_le (Nat.le_max_left _ _)) (k2.more_le (fun b hb => List.mem_append_right _ hb) (Nat.le_max_right _ _))
theorem DxKv.repr {prog : Program} {w : World} (I : Inv X pins σ H s) : ∀ (es : List (PyData × PyData)) (kvs : List (Key × V)) (vs : List (Key × Value)) (en : List DictEntry), DxKv X.K H j kvs es → KV kvs vs → Pairs (mixKind X.prog X.w) en vs →
    PyData.showableKv es = true → (∀ t ∈ PyData.shownKv es, t.length ≤ sizeLine) → ∃ bs, ReadAtMost s.heap (PyData.depthKv es) bs ∧ ReprEntriesK prog w bs s.heap (PyData.depthKv es) en (PyData.shownKv es)
  | [], _, _, _, h, r, p, _, _ => by
    cases h; cases r; cases p
    exact ⟨[], (fun _ q => nomatch q), by simp only [PyData.shownKv]; exact .nil⟩
  | (k, d) :: es, _, _, _, h, r, p, hs, hz => by
    cases h with
    | cons h1 h2 =>
      cases r with
      | cons r1 r2 =>
        cases p with
        | cons p1 p2 p3 =>
          obtain ⟨e1, r1⟩ := r1
          rw [← p2] at r1
          obtain ⟨s1, s2, s3⟩ := kd_split hs
          have z0 := hz _ (by simp only [PyData.shownKv]; exact List.mem_cons_self ..)
          have z1 := Nat.le_trans (Nat.le_trans (Nat.le_add_right _ _) (Nat.le_of_eq (strLen_append _ ": ").symm)) (Nat.le_trans (Nat.le_trans (Nat.le_add_right _ _) (Nat.le_of_eq (strLen_append _ d.shown).symm)) z0)
          have z2 : d.shown.length ≤ sizeLine := Nat.le_trans (by rw [strLen_append, strLen_append]; omega) z0
          obtain ⟨b1, hb1, k1⟩ := Dx.repr (prog := prog) (w := w) I d _ _ h1 r1 s2 z2
          obtain ⟨b2, hb2, k2⟩ := DxKv.repr (prog := prog) (w := w) I es _ _ _ h2 r2 p3 s3 (fun t ht => hz t (by simp only [PyData.shownKv]; exact List.mem_cons_of_mem _ ht))
          refine ⟨b1 ++ b2, ?_, ?_⟩
          · simp only [PyData.depthKv]
            exact (hb1.mono (by omega)).append (hb2.mono (by omega))
          · simp only [PyData.depthKv, PyData.shownKv]
            have p1' := p1
            rw [mixKind_is, ← e1] at p1'
            refine .cons (key_repr s.heap p1' s1 z1 _ _) ((k1.more fun b hb => List.mem_append_left _ hb).level_le (by omega)) ?_
            exact ent_more (fun b hb => List.mem_append_right _ hb) (by omega) k2
end
end

/-- repr(x), where no repr is running -/
def rRepr (K : PySem.W.Frag) : List V → Hp → VK → Prop := fun xs H Q => ∃ v d j, xs = [v] ∧ Dx K H j v d ∧ d.showable = true ∧ d.shown.length ≤ sizeLine ∧ d.depth ≤ 60 ∧ Q (.str d.shown) H
theorem call_reprX {X : Cx} (hu : X.A.units + 64 < cLine) (hg : X.A.guards = some []) : CallR X (.builtin "repr") (rRepr X.K) := by
  intro pins s σ H xs us Q I r h
  obtain ⟨v, d, j, rfl, hx, hs, hz, hd, q⟩ := h
  obtain ⟨u, rfl, r1⟩ := vals1 r
  obtain ⟨as0, r0⟩ := Dx.reads I d v u hx r1
  have fin : ∀ h' tk, (∀ b o, s.heap.get? b = some o → h'.get? b = some o) → ∀ uu, EP X pins σ Q (.str d.shown uu) { s with heap := h', toks := tk } := fun h' tk k uu =>
    ⟨.str d.shown, H, I.kept k, ⟨_, rfl⟩, q⟩
  cases hx with
  | non =>
    cases r1
    refine PySem.P.repr_of_none ?_
    have z := fin s.heap (s.toks + 1) (fun _ _ e => e) s.toks
    simpa only [PyData.shown] using z
  | bl b =>
    cases r1
    refine PySem.P.repr_of_bool ?_
    have z := fin s.heap (s.toks + 1) (fun _ _ e => e) s.toks
    simpa only [PyData.shown] using z
  | int i =>
    obtain ⟨t, rfl⟩ := r1
    refine PySem.P.repr_of_int (by simpa [PyData.showable] using hs) ?_
    have z := fin s.heap (s.toks + 1) (fun _ _ e => e) s.toks
    simpa only [PyData.shown] using z
  | str x =>
    obtain ⟨t, rfl⟩ := r1
    have z := fin s.heap (s.toks + 1) (fun _ _ e => e) s.toks
    simp only [PyData.shown] at z hz
    exact PySem.P.repr_of_str z hz
  | @lst a xs ds _ hq ha =>
    cases r1
    have hz' : (listText (PyData.shownAll ds)).length ≤ sizeLine := by simpa only [PyData.shown] using hz
    obtain ⟨its, rv, ⟨o, n, ho, hc, _, hdd⟩, _⟩ := I.list hq
    obtain ⟨bs, hb, hk⟩ := DxAll.repr (prog := X.prog) (w := X.w) I ds _ its ha rv (by simpa [PyData.showable] using hs) (fun t ht => Nat.le_trans (listText_mem_le ht) hz')
    have hna := not_mem_of_deeper r0 (show PyData.depthAll ds < (PyData.list ds).depth by simp only [PyData.depth]; omega) hb
    simp only [PyData.depth] at hd
    simp only [PyData.shown] at fin
    refine call_repr_slot (T := "list") (by omega) ⟨o, ho, hc⟩ F.slot_list_repr.toG ?_
    cases its with
    | nil =>
      cases rv
      cases ha
      simp only [PyData.shownAll, listText_nil] at fin
      exact call_list_repr_empty ⟨o, ho, hc⟩ ho hdd ⟨_, _, rfl, fin s.heap _ (fun _ _ e => e) _⟩
    | cons x l =>
      exact call_list_reprK (h₀ := s.heap) ho hc hdd hna (by simpa using hk.length_eq) (fun i y e => hk.item i y (by simpa using e)) hg (fun b _ => Clear.nil b) (by show X.A.units + 1 + _ < _; omega) (fun _ _ e => e) (fun h' u tk k => ⟨_, _, rfl, fin h' tk k u⟩) hz'
  | @tup a xs ds _ hq ha =>
    cases r1
    have hz' : (tupleText (PyData.shownAll ds)).length ≤ sizeLine := by simpa only [PyData.shown] using hz
    obtain ⟨its, rv, ⟨o, ho, hc, n, hdd⟩, _⟩ := I.tuple hq
    obtain ⟨bs, hb, hk⟩ := DxAll.repr (prog := X.prog) (w := X.w) I ds _ its ha rv (by simpa [PyData.showable] using hs) (fun t ht => Nat.le_trans (tupleText_mem_le ht) hz')
    have hna := not_mem_of_deeper r0 (show PyData.depthAll ds < (PyData.tuple ds).depth by simp only [PyData.depth]; omega) hb
    simp only [PyData.depth] at hd
    simp only [PyData.shown] at fin
    refine call_repr_slot (T := "tuple") (by omega) ⟨o, ho, hc⟩ F.slot_tuple_repr ?_
    exact call_tuple_reprK (h₀ := s.heap) ho hc hdd hna hk hg (fun b _ => Clear.nil b) (by show X.A.units + 1 + _ < _; omega) (fun _ _ e => e) (fun h' u tk k => ⟨_, _, rfl, fin h' tk k u⟩) hz'
  | @dic a kvs es _ hq ha =>
    cases r1
    have hz' : (dictText (PyData.shownKv es)).length ≤ sizeLine := by simpa only [PyData.shown] using hz
    obtain ⟨_, hsys, vs, kv, o, en, ep, ho, hx, hdd, _, hp, _⟩ := dk_of I.hok hq
    obtain ⟨bs, hb, hk⟩ := DxKv.repr (prog := X.prog) (w := X.w) I es _ vs _ ha kv hp (by simpa [PyData.showable] using hs) (fun t ht => Nat.le_trans (dictText_mem_le ht) hz')
    have hna := not_mem_of_deeper r0 (show PyData.depthKv es < (PyData.dict es).depth by simp only [PyData.depth]; omega) hb
    simp only [PyData.depth] at hd
    simp only [PyData.shown] at fin
    refine call_repr_slot (T := "dict") (by omega) ⟨o, ho, hx.1⟩ F.slot_dict_repr ?_
    exact call_dict_reprK (h₀ := s.heap) ho hx.1 hdd hsys hna hk hg (fun b _ => Clear.nil b) (by show X.A.units + 1 + _ < _; omega) (fun _ _ e => e) (fun h' u tk k => ⟨_, _, rfl, fin h' tk k u⟩) hz'
end Cv

/-! part B1 -/
set_option maxRecDepth 100000
set_option maxHeartbeats 4000000
namespace Cv
open PySem PySem.Spec PyProof.Rows L2
open PySem.W (Frag)
/-! ### defs whose bodies may call repr: their callers run no repr -/
structure FnG (P : Program) (w : World) (K : Frag) (mg : Str → Option Value) (base : Heap) (CX : CXT) (k : Nat) (f : Addr) (fd : FuncData) (ps : List Str) (sp : Sp) : Prop where
  len : ∀ vs H Q E, sp vs H Q E → vs.length = ps.length
  go : ∀ (A : Around) (outer : List Env) (s : Shared) (H : Hp) (args : Args) (us : List Value) (vs : List V) (Q : VK) (E : XK),
    A.guards = some [] → Room k A → Env0 P w K mg base A outer s H → BindsTo s fd args (ps.zip us) →
    Vals vs us → sp vs H Q E → codeAny (model P w) A (.call (.ref f) args) (CR CX outer P w H s Q E) s
section
variable {P : Program} {w : World} {K : Frag} {mg : Str → Option Value} {base : Heap} {CX : CXT} {k : Nat} {f : Addr} {fd : FuncData} {ps : List Str} {sp : Sp}
theorem FnG.of (F : FnOk P w K mg base CX k f fd ps sp) : FnG P w K mg base CX k f fd ps sp :=
  ⟨F.len, fun A outer s H args us vs Q E _ hr e0 hb r h => F.run A outer s H args us vs Q E hr e0 hb r h⟩
/-- the rule for a def, where no repr runs around it -/
theorem fn_gd {name qual : Str} {params : Arguments} {body : List Stmt} {scope : Scope} {dV kV doc pm cdv ct oc : Value} {an od : Option Addr} {osl : Array (Option Value)} {N : List Str}
    (lk : K.lookup f = some ⟨oc, od, .func (PySem.W.fnOf name qual params body scope dV kV doc pm an cdv ct), osl⟩) (hcd : PySem.W.codeIn K cdv qual = true)
    (S : FnScope N ps scope) (hlen : ∀ vs H Q E, sp vs H Q E → vs.length = ps.length)
    (hbody : ∀ (A : Around) (outer : List Env) (s : Shared) (H : Hp) (vs : List V) (Q : VK) (E : XK),
      A.guards = some [] → Room k (A.deeper (envOfC qual scope s.heap.objs.size f cdv)) → sp vs H Q E →
      ∃ t, PSs (cxOf CX P w K mg base N qual scope f cdv A outer s H E) body t ∧ t { nx := fun _ H' => Q .non H', rt := Q } (start N vs) H) :
    FnG P w K mg base CX (k + 1) f (PySem.W.fnOf name qual params body scope dV kV doc pm an cdv ct) ps sp := by
  refine ⟨hlen, fun A outer s H args us vs Q E gA room e0 hb r hsp => ?_⟩
  have vl := hlen _ _ _ _ hsp
  have kx : K.In s.heap := e0.mod.kin.keeps (fun b o e => And.left (e0.bs b o e))
  have noLim : s.heap.NoLimit := e0.mod.nolimit.keeps (fun b o e => And.left (e0.bs b o e))
  have kinds : ∀ y ∈ ps.zip us, scope.names.lookup y.1 = some .local ∨
      (scope.names.lookup y.1 = some .cell ∧ ((cellsFrom (s.heap.objs.size + 1) scope.names []).lookup y.1).isSome = true) := by
    rintro ⟨nm, v⟩ hy
    cases S.par nm (List.of_mem_zip hy).1 with
    | inl z => exact .inl z
    | inr z => exact .inr ⟨z, PySem.W.cellsFrom_some _ _ _ (.inl z)⟩
  refine codeAny_call_function room.depth (kx _ _ lk) rfl S.co S.gen rfl (PySem.W.codeRec_of kx hcd) (hb _ _ _ _ ?_)
  refine wpAny_newFunctionEnv_cells S.kind kinds (fun env he t1 icc => ?_)
  subst he
  refine ⟨noLim.keeps icc.toInCall.keep, codeAny_func ?_⟩
  obtain ⟨t, ht, tq⟩ := hbody A outer s H vs Q E gA (room.deeper _) hsp
  have J0 := inv_start (CX := CX) (P := P) (mg := mg) (base := base) (E := E) S room.hd e0 vl r icc
  refine wpAny_mono (ht.run [] t1 (start N vs) H _ J0 tq) (fun fl s' hs => ?_) (fun e s' hs => hs)
  cases fl with
  | ret u =>
    obtain ⟨v, σ', H', J, rv, q⟩ := hs
    exact ⟨v, H', J.os, J.bare, J.base, J.hok, rv, q⟩
  | next =>
    obtain ⟨σ', H', J, q⟩ := hs
    exact ⟨V.non, H', J.os, J.bare, J.base, J.hok, rfl, q⟩
  | brk => obtain ⟨_, _, _, z⟩ := hs; exact False.elim z
  | cont => obtain ⟨_, _, _, z⟩ := hs; exact False.elim z
end
section
variable {P : Program} {w : World} {K : Frag} {mg : Str → Option Value} {base : Heap} {ps : List Str} {k : Nat} {sp : Sp}
theorem fun_gd {x qual : Str} {st : Stmt} {f : Addr} {fd : FuncData} {N : List Str} (F : Fun K x qual st f fd) (S : FnScope N ps (defScope st)) (hlen : ∀ vs H Q E, sp vs H Q E → vs.length = ps.length)
    (hbody : ∀ (cdv : Value) (A : Around) (outer : List Env) (s : Shared) (H : Hp) (vs : List V) (Q : VK) (E : XK), A.guards = some [] →
      Room k (A.deeper (envOfC qual (defScope st) s.heap.objs.size f cdv)) → sp vs H Q E →
      ∃ t, PSs (cxOf CX0 P w K mg base N qual (defScope st) f cdv A outer s H E).nox (defBody st) t ∧ t { nx := fun _ H' => Q .non H', rt := Q } (start N vs) H) :
    FnG P w K mg base CX0 (k + 1) f fd ps sp := by
  obtain ⟨oc, od, kV, doc, pm, an, cdv, ct, osl, rfl, lk, hc⟩ := F.ex
  refine fn_gd lk hc S hlen (fun A outer s H vs Q E gA room hsp => ?_)
  obtain ⟨t, ht, q⟩ := hbody cdv A outer s H vs Q E gA room hsp
  exact ⟨t, ht.nox, q⟩
end

/-! ### a def by name: its promise, where it stands, how it binds -/
/-- the module's name x holds a def that keeps sp -/
structure Has (P : Program) (w : World) (K : Frag) (mg : Str → Option Value) (base : Heap) (CX : CXT) (k : Nat) (x : Str) (ps : List Str) (sp : Sp) : Prop where
  ex : ∃ f fd, FnOk P w K mg base CX k f fd ps sp ∧ mg x = some (.ref f) ∧ PySem.W.keepIn K (.ref f) = true ∧ Binds K fd ps []
/-- the same, for a caller within which no repr runs -/
structure HasG (P : Program) (w : World) (K : Frag) (mg : Str → Option Value) (base : Heap) (CX : CXT) (k : Nat) (x : Str) (ps : List Str) (sp : Sp) : Prop where
  ex : ∃ f fd, FnG P w K mg base CX k f fd ps sp ∧ mg x = some (.ref f) ∧ PySem.W.keepIn K (.ref f) = true ∧ Binds K fd ps []
/-- .. called by keywords alone: their values zs come to the parameters' order by g -/
structure HasK (P : Program) (w : World) (K : Frag) (mg : Str → Option Value) (base : Heap) (CX : CXT) (k : Nat) (x : Str) (ps ks : List Str) (g : {α : Type} → List α → List α) (sp : Sp) : Prop where
  ex : ∃ f fd, FnOk P w K mg base CX k f fd ps sp ∧ mg x = some (.ref f) ∧ PySem.W.keepIn K (.ref f) = true ∧
    (∀ (s : Shared) (ws : List Value), ws.length = ks.length → BindsTo s fd ⟨[], ks.zip ws⟩ (ps.zip (g ws))) ∧
    (∀ {zs : List V} {ws : List Value}, Vals zs ws → zs.length = ks.length → Vals (g zs) (g ws))
section
variable {X : Cx} {CX : CXT} {k j : Nat} {ps ks : List Str} {sp : Sp} {E : XK} {x : Str} {p pos : Pos} {e : Expr} {es : List Expr} {kws : List Keyword} {t : TA}
def tCl (sp : Sp) (E : XK) (t : TA) : TE := fun σ H Q => t σ H fun vs H1 => sp vs H1 Q E
theorem pe_has (D : Has X.prog X.w X.K X.mg X.base CX k x ps sp) (hr : Room j X.A) (hx : Passes CX X E) (ha : PA X (e :: es) t) (hkj : k ≤ j := by decide) (hg : Gl X x := by rfl) (hdb : (x == ("__debug__" : Str)) = false := by decide)
    (he : starEach (e :: es) X.env = (false, eval e X.env) :: starEach es X.env := by rfl) (hpl : (backTo pos (starEach es X.env)).any (·.1) = false := by rfl) : PE X (.Call (.Name x p) (e :: es) [] pos) (tCl sp E t) := by
  obtain ⟨f, fd, F, hm, hk, hb⟩ := D.ex
  refine ⟨fun pins s σ H Q I h => ?_⟩
  refine (pe_call F (hr.mono hkj) hg hm hk hb .nil hx ha hdb he hpl).run pins s σ H Q I ?_
  show t σ H fun vs H1 => sp (vs ++ []) H1 Q E
  have h' : t σ H fun vs H1 => sp vs H1 Q E := h
  have e2 : (fun (vs : List V) (H1 : Hp) => sp (vs ++ []) H1 Q E) = fun vs H1 => sp vs H1 Q E := by
    funext vs H1
    rw [List.append_nil]
  rw [e2]
  exact h'
/-- the callee runs -/
theorem run_gd {f : Addr} {fd : FuncData} {pins : List (Addr × Obj)} {σ : L2.St} {H : Hp} {s : Shared} {Q : VK} {us : List Value} {vs : List V} (F : FnG X.prog X.w X.K X.mg X.base CX k f fd ps sp) (hgd : X.A.guards = some []) (hr : Room k X.A) (hb : Binds X.K fd ps []) (hx : Passes CX X E)
    (I : Inv X pins σ H s) (r : Vals vs us) (h : sp vs H Q E) : wpAny (model X.prog X.w) X.A (call (.ref f) us) (EP X pins σ Q) X.xe s := by
  have hl : (us ++ ([] : List Value)).length = ps.length := by
    rw [List.append_nil, ← r.length]
    exact F.len _ _ _ _ h
  have hb2 := hb s us I.kIn hl
  rw [List.append_nil] at hb2
  refine wpAny_call (codeAny_mono (F.go X.A X.stack s H ⟨us, []⟩ us vs Q E hgd hr I.env0 hb2 r h) (fun res s' hq => ?_))
  cases res with
  | error e => exact hx pins σ H s e s' I hq
  | ok fl => cases fl <;> first | exact I.after hq | exact False.elim hq
theorem pe_hasG (D : HasG X.prog X.w X.K X.mg X.base CX k x ps sp) (hgd : X.A.guards = some []) (hr : Room j X.A) (hx : Passes CX X E) (ha : PA X (e :: es) t) (hkj : k ≤ j := by decide) (hg : Gl X x := by rfl) (hdb : (x == ("__debug__" : Str)) = false := by decide)
    (he : starEach (e :: es) X.env = (false, eval e X.env) :: starEach es X.env := by rfl) (hpl : (backTo pos (starEach es X.env)).any (·.1) = false := by rfl) : PE X (.Call (.Name x p) (e :: es) [] pos) (tCl sp E t) := by
  obtain ⟨f, fd, F, hm, hk, hb⟩ := D.ex
  refine ⟨fun pins s σ H Q I h => ?_⟩
  refine wpAny_Call_Name_kw (ld_glob I hg hm ?_ hdb)
  refine PySem.W.callWith_K (h₀ := X.base) I.ok.mod.kin hk (thn (ha.run pos pins s σ H _ I h) fun us s1 hh => ?_) he hpl
  obtain ⟨vs, H1, I1, r, q⟩ := hh
  exact ⟨I1.kIn, run_gd F hgd (hr.mono hkj) hb hx I1 r q⟩
/-- f(k = v, ..) -/
theorem pe_hasK {g : {α : Type} → List α → List α} (D : HasK X.prog X.w X.K X.mg X.base CX k x ps ks g sp) (hr : Room j X.A) (hx : Passes CX X E) (hkw : PK X kws t) (hkj : k ≤ j := by decide)
    (hall : (backToKw pos (keywordEach kws X.env)).all (·.1.isSome) = true := by rfl) (hks : (backToKw pos (keywordEach kws X.env)).filterMap (·.1) = ks := by rfl) (hn : kws.length = ks.length := by rfl)
    (hg : Gl X x := by rfl) (hdb : (x == ("__debug__" : Str)) = false := by decide)
    (hpl : ((backTo pos (starEach [] X.env)).any (·.1) || (backToKw pos (keywordEach kws X.env)).any (·.1.isNone)) = false := by rfl) :
    PE X (.Call (.Name x p) [] kws pos) (fun σ H Q => t σ H fun zs H1 => zs.length = ks.length ∧ sp (g zs) H1 Q E) := by
  obtain ⟨f, fd, F, hm, hk, hb, hrel⟩ := D.ex
  refine ⟨fun pins s σ H Q I h => ?_⟩
  refine wpAny_Call_Name_kw (ld_glob I hg hm ?_ hdb)
  refine PySem.W.callWith_KW0 (h₀ := X.base) I.ok.mod.kin hk hall (thn (hkw.run pos pins s σ H _ I h) fun ws s1 hh => ?_) hpl
  obtain ⟨zs, H1, I1, rz, hz, q⟩ := hh
  refine ⟨I1.kIn, ?_⟩
  rw [hks]
  have hw : ws.length = ks.length := by rw [← rz.length]; exact hz
  refine wpAny_call (codeAny_mono (F.run X.A X.stack s1 H1 ⟨[], ks.zip ws⟩ (g ws) (g zs) Q E (hr.mono hkj) I1.env0 (hb s1 ws hw) (hrel rz hz) q) (fun res s' hq => ?_))
  cases res with
  | error e => exact hx pins σ H1 s1 e s' I1 hq
  | ok fl => cases fl <;> first | exact I1.after hq | exact False.elim hq
end

/-! ### a few more rules -/
section
variable {X : Cx}
/-- ** of ints of any size -/
theorem op_powB : OpR X (binaryOp .Pow) (rI (fun i j => 0 ≤ j ∧ (Builtin.Int.intBits i : Int) * j ≤ 2 ^ 27) fun i j => .int (i ^ j.toNat)) := opI fun _ _ _ _ _ _ _ hc q =>
  PyProof.Rows.pow_int hc.1 hc.2 q
theorem bits_of {i : Int} {n : Nat} (h : i.natAbs < 2 ^ n) : Builtin.Int.intBits i ≤ n := by
  unfold Builtin.Int.intBits
  split
  · omega
  · rename_i h0
    have h1 : i.natAbs ≠ 0 := fun z => h0 (by simpa using z)
    have h2 := (Nat.log2_lt h1).mpr h
    omega
/-- xs != [] -/
def rNeL (K : Frag) : R2 := fun x y H Q => ∃ a b xs, x = .ref a ∧ y = .ref b ∧ SqL K H a xs ∧ SqL K H b [] ∧ Q (.bl (!xs.isEmpty)) H
/-- xs == [] -/
def rEqL (K : Frag) : R2 := fun x y H Q => ∃ a b xs, x = .ref a ∧ y = .ref b ∧ SqL K H a xs ∧ SqL K H b [] ∧ Q (.bl xs.isEmpty) H
theorem none_items {its : List Value} (r : Vals [] its) : its = [] := by
  cases r
  rfl
/-- != of a list and the empty list -/
theorem op_neL (hu : X.A.units < cLine) : OpR X (compareOp .NotEq) (rNeL X.K) := by
  intro pins s σ H x y v u Q I rx ry h
  obtain ⟨a, b, xs, rfl, rfl, ha, hb, q⟩ := h
  obtain rfl : v = Value.ref a := rx
  obtain rfl : u = Value.ref b := ry
  obtain ⟨its, r1, ⟨⟨cls, dd, data, sl⟩, n, ho, hc, hdd, hd⟩, _⟩ := I.list ha
  obtain ⟨its2, r2, ⟨⟨cls2, dd2, data2, sl2⟩, n2, ho2, hc2, hdd2, hd2⟩, _⟩ := I.list hb
  simp only at hc hd hc2 hd2
  subst hc hd hc2 hd2
  have e2 := none_items r2
  subst e2
  have ta : s.TypeIs (.ref a) "list" := ⟨_, ho, rfl⟩
  have tb : s.TypeIs (.ref b) "list" := ⟨_, ho2, rfl⟩
  show wpAny _ _ (richCompare .NotEq (.ref a) (.ref b)) _ _ s
  cases its with
  | nil =>
    have e1 : xs = [] := by cases r1; rfl
    subst e1
    refine wpAny_richCompare_same_room (op := .NotEq) ta tb F.slot_list_ne (call_meets F.slot_list_ne ta F.entry_list_ne (F.args_list_ne_2 _ _) (SeqAt.list_neAt a b _ _ n n2 dd dd2 sl sl2 rfl (fun _ => true))
      ⟨ho, ho2, fun j h1 _ => absurd h1 (by simp), ⟨(fun z => nomatch z), ⟨.bl false, H, I, rfl, q⟩⟩⟩) hu
  | cons z l =>
    have e1 : xs.isEmpty = false := by cases r1; rfl
    rw [e1] at q
    refine wpAny_richCompare_same_room (op := .NotEq) ta tb F.slot_list_ne (call_meets F.slot_list_ne ta F.entry_list_ne (F.args_list_ne_2 _ _) (SeqAt.list_ne_lengthsAt a b _ _ n n2 dd dd2 sl sl2 (by simp))
      ⟨ho, ho2, ⟨(fun z => nomatch z), ⟨.bl true, H, I, rfl, q⟩⟩⟩) hu
end
end Cv

/-! part B2 -/
set_option maxRecDepth 100000
set_option maxHeartbeats 4000000
namespace Cv
open PySem PySem.Spec PyProof.Rows L2
open PySem.W (Frag)
section
variable {prog : Program} {w : World} {A : Around} {E : Value → Shared → Prop} {s : Shared}
theorem hint_str {x : Str} {t : Tok} {Q : Bool → Shared → Prop} (h : Q false s) : wpAny (model prog w) A (Builtin.List.listLengthHint (.str x t)) Q E s := by
  have hT : s.TypeIs (.str x t) "str" := typeIs_str s x t
  unfold Builtin.List.listLengthHint
  refine wpAny_bind (wpAny_specialOf hT F.slot_str_len.lookup ?_)
  generalize hid : ("str.__len__" : String) = id0
  wp_delta
  rw [show splitId id0 = some ("str", "__len__") from by subst hid; decide +kernel]
  subst hid
  refine wpAny_bind (wpAny_isInstance (T := "str") (b := true) hT isSubtype_str_str ?_)
  refine wpAny_ite_split (fun hab => absurd hab (by decide)) (fun _ => ?_)
  refine wpAny_ite_split (fun _ => ?_) (fun hab => absurd (by decide +kernel) hab)
  refine wpAny_bind (wpAny_typeOf hT ?_)
  exact wpAny_pure h
theorem ext_str {R : Result → Shared → Prop} (hh : A.handled = none) (x : Str) (t : Tok) (S : Addr) (res : Value) (c₀ : Nat) (hS : s.heap.get? S = some { cls := .type "list", data := .seq #[] c₀ })
    (hR : ∀ h' tk acc' c', (∀ b o, b ≠ S → s.heap.get? b = some o → h'.get? b = some o) → h'.get? S = some { cls := .type "list", dict := none, data := .seq acc' c', slots := #[] } →
      ItemsOf (SignAt x) acc' x.cps.size → R (.ok (.ret res)) { s with heap := h', toks := tk }) (hn : x.cps.size ≤ sizeLine) :
    wpAny (model prog w) A.in1 (Builtin.List.listExtendWith (.ref S) (.str x t) res)
      (fun fin s' => match fin with | .done f => R (.ok f) s' | .again c' => c'.quiet = true ∧ codeAny (model prog w) A c' R s') (fun e s' => R (.error e) s') s := by
  have n1 : S ≠ s.heap.objs.size := Nat.ne_of_lt (Heap.lt_size hS)
  have n2 : S ∉ [s.heap.objs.size] := fun m => n1 (List.mem_singleton.mp m)
  unfold Builtin.List.listExtendWith
  refine wpAny_bind (wpAny_typeOf (T := "str") (v := .str x t) (typeIs_str s x t) ?_)
  have c1 : Builtin.List.listSameRef (.ref S) (.str x t) = false := rfl
  have c2 : (Value.type "str" == Value.type "list") = false := by decide
  have c3 : (Value.type "str" == Value.type "tuple") = false := by decide
  simp only [c1, c2, c3, Bool.or_false, Bool.false_eq_true, if_false]
  refine wpAny_bind (wpAny_pyIter_str fun o St W h0 => ?_)
  refine wpAny_bind (wpAny_holding (hint_str ?_))
  rw [if_neg (by first | decide | decide +kernel)]
  have W1 := W A.in1 hh
  refine wpAny_pure ⟨plainId_quiet PySem.F.plain_extend_loop _, codeAny_extend_loopS W1.toS hn _ n2 _ x.cps.size 0 _ _ _ rfl (Nat.zero_le _) h0 (Heap.get?_push_of_some _ hS) (ItemsOf.nil _) fun s' acc' c' hm hS' hacc => ?_⟩
  rw [Moved.eq_with hm]
  refine hR s'.heap s'.toks acc' c' (fun b ob hb e => hm.heap b ob (fun z => ?_) (Heap.get?_push_of_some _ e)) hS' hacc
  cases List.mem_cons.mp z with
  | inl z1 => exact hb z1
  | inr z1 => exact absurd (Heap.lt_size e) (by rw [List.mem_singleton.mp z1]; exact Nat.lt_irrefl _)
/-- list(x) of a text: its signs -/
theorem list_str {x : Str} {t : Tok} {Q : Value → Shared → Prop} (hh : A.handled = none) (hn : x.cps.size ≤ sizeLine)
    (hQ : ∀ h' tk acc' c', (∀ b o, s.heap.get? b = some o → h'.get? b = some o) → h'.get? s.heap.objs.size = some { cls := .type "list", dict := none, data := .seq acc' c', slots := #[] } →
      ItemsOf (SignAt x) acc' x.cps.size → Q (.ref s.heap.objs.size) { s with heap := h', toks := tk }) : wpAny (model prog w) A (call (.type "list") [.str x t]) Q E s := by
  refine callType_codes (Q₁ := fun obj s₁ => obj = .ref s.heap.objs.size ∧ s₁ = { s with heap := s.heap.push { cls := .type "list", data := .seq #[] } })
    PySem.F.called_list (PySem.F.typeCall_list_1 _) PySem.F.entry_list_init (code_list_new _ ⟨rfl, rfl⟩) fun obj s₁ h₁ => ?_
  obtain ⟨rfl, rfl⟩ := h₁
  have hS : (s.heap.push { cls := .type "list", data := .seq #[] }).get? s.heap.objs.size = some { cls := .type "list", data := .seq #[] } := Heap.get?_push_size _ rfl
  refine ⟨⟨_, hS, rfl⟩, PySem.F.args_list_init_2 _ _, ?_⟩
  show wpAny _ _ (do let old ← Builtin.List.listItems (.ref _); Builtin.List.listUpdate (.ref _) (fun _ => #[]); letGo old.toList.reverse; Builtin.List.listExtendWith (.ref _) (.str x t) .none) _ _ _
  refine wpAny_bind ?_
  unfold Builtin.List.listItems
  refine wpAny_bind (wpAny_seqItems hS rfl (wpAny_pure ?_))
  refine wpAny_bind (m := updateSeq s.heap.objs.size (fun _ => #[])) (wpAny_updateSeq hS rfl ?_)
  have hS2 := Heap.get?_update_self (Obj.mapSeq (fun _ => (#[] : Array Value))) hS rfl
  refine wpAny_bind (wpAny_letGo ?_)
  refine ext_str (A := A.in1) hh x t _ .none _ hS2 (fun h' tk acc' c' hk hS' hacc => ?_) hn
  exact ⟨rfl, hQ h' tk acc' c' (fun b o e => hk b o (Nat.ne_of_lt (Heap.lt_size e)) ((Heap.get?_update_other _ _ (Ne.symm (Nat.ne_of_lt (Heap.lt_size e)))).trans (Heap.get?_push_of_some _ e))) hS' hacc⟩
end
/-- the signs of a text, each a text -/
def signs (x : Str) : List Str := x.cps.toList.map fun c => ⟨#[c]⟩
section
variable {X : Cx}
theorem call_list_str (hc : X.calm = true) : CallR X (.type "list") (fun xs H Q => ∃ x, xs = [.str x] ∧ x.cps.size ≤ sizeLine ∧ ∀ p, H p = none → Q (.ref p) (upd H p (.lst ((signs x).map V.str)))) := by
  intro pins s σ H xs us Q I r h
  obtain ⟨x, rfl, hz, q⟩ := h
  obtain ⟨u, rfl, t, rfl⟩ := vals1 r
  refine list_str (I.ok.hd hc) hz fun h' tk acc c hk hp hi => ?_
  have hf : H s.heap.objs.size = none := I.hok.fresh (Nat.le_refl _)
  refine ⟨.ref s.heap.objs.size, upd H s.heap.objs.size (.lst ((signs x).map V.str)), I.laid (t' := tk) hk (Nat.le_refl _) ?_, rfl, q _ hf⟩
  have hl : (signs x).length = x.cps.size := by simp [signs]
  refine ⟨by rw [List.length_map, hl]; exact hz, acc.toList, c, ?_, by simpa using hp⟩
  refine vals_of_idx _ _ (by rw [List.length_map, hl]; exact hi.1) fun j u hj => ?_
  obtain ⟨cc, t', e1, e2⟩ := hi.2 j u (by simpa using hj)
  have e3 : x.cps.toList[j]? = some cc := by rw [Array.getElem?_toList]; exact e1
  exact ⟨.str ⟨#[cc]⟩, by rw [signs, List.map_map, List.getElem?_map, e3]; rfl, ⟨t', e2⟩⟩
end
end Cv

/-! part B3 -/
set_option maxRecDepth 100000
set_option maxHeartbeats 4000000
namespace Cv
open PySem PySem.Spec PyProof.Rows L2
open PySem.W (Frag)
section
variable {X : Cx}
/-- == of a list and the empty list -/
theorem op_eqL (hu : X.A.units < cLine) : OpR X (compareOp .Eq) (rEqL X.K) := by
  intro pins s σ H x y v u Q I rx ry h
  obtain ⟨a, b, xs, rfl, rfl, ha, hb, q⟩ := h
  obtain rfl : v = Value.ref a := rx
  obtain rfl : u = Value.ref b := ry
  obtain ⟨its, r1, ⟨⟨cls, dd, data, sl⟩, n, ho, hc, hdd, hd⟩, _⟩ := I.list ha
  obtain ⟨its2, r2, ⟨⟨cls2, dd2, data2, sl2⟩, n2, ho2, hc2, hdd2, hd2⟩, _⟩ := I.list hb
  simp only at hc hd hc2 hd2
  subst hc hd hc2 hd2
  have e2 := none_items r2
  subst e2
  have ta : s.TypeIs (.ref a) "list" := ⟨_, ho, rfl⟩
  have tb : s.TypeIs (.ref b) "list" := ⟨_, ho2, rfl⟩
  show wpAny _ _ (richCompare .Eq (.ref a) (.ref b)) _ _ s
  cases its with
  | nil =>
    have e1 : xs = [] := by cases r1; rfl
    subst e1
    refine wpAny_richCompare_same_room (op := .Eq) ta tb F.slot_list_eq (call_meets F.slot_list_eq ta F.entry_list_eq (F.args_list_eq_2 _ _) (SeqAt.list_eqAt a b _ _ n n2 dd dd2 sl sl2 rfl (fun _ => true))
      ⟨ho, ho2, fun j h1 _ => absurd h1 (by simp), ⟨(fun z => nomatch z), ⟨.bl true, H, I, rfl, q⟩⟩⟩) hu
  | cons z l =>
    have e1 : xs.isEmpty = false := by cases r1; rfl
    rw [e1] at q
    refine wpAny_richCompare_same_room (op := .Eq) ta tb F.slot_list_eq (call_meets F.slot_list_eq ta F.entry_list_eq (F.args_list_eq_2 _ _) (SeqAt.list_eq_lengthsAt a b _ _ n n2 dd dd2 sl sl2 (by simp))
      ⟨ho, ho2, ⟨(fun z => nomatch z), ⟨.bl false, H, I, rfl, q⟩⟩⟩) hu
/-- == and != of data -/
def rEqX (K : Frag) : R2 := fun x y H Q => ∃ d e j1 j2, Dx K H j1 x d ∧ Dx K H j2 y e ∧ SeqAt.shaped d = true ∧ SeqAt.shaped e = true ∧ Q (.bl (PyData.eqv d e)) H
def rNeX (K : Frag) : R2 := fun x y H Q => ∃ d e j1 j2, Dx K H j1 x d ∧ Dx K H j2 y e ∧ SeqAt.shaped d = true ∧ SeqAt.shaped e = true ∧ Q (.bl (!PyData.eqv d e)) H
theorem op_eqX (hu : X.A.units + 64 < cLine) : OpR X (compareOp .Eq) (rEqX X.K) := by
  intro pins s σ H x y v u Q I rx ry h
  obtain ⟨d, e, j1, j2, hd, he, sd, se, q⟩ := h
  obtain ⟨as, r1⟩ := Dx.reads I d x v hd rx
  obtain ⟨bs, r2⟩ := Dx.reads I e y u he ry
  exact SeqAt.compareEq_shaped r1 r2 sd se hu ⟨.bl (PyData.eqv d e), H, I, rfl, q⟩
theorem op_neX (hu : X.A.units + 64 < cLine) : OpR X (compareOp .NotEq) (rNeX X.K) := by
  intro pins s σ H x y v u Q I rx ry h
  obtain ⟨d, e, j1, j2, hd, he, sd, se, q⟩ := h
  obtain ⟨as, r1⟩ := Dx.reads I d x v hd rx
  obtain ⟨bs, r2⟩ := Dx.reads I e y u he ry
  exact SeqAt.compareNe_shaped r1 r2 sd se hu ⟨.bl (!PyData.eqv d e), H, I, rfl, q⟩
end
/-! ### tuples of data: slices, sums -/
section
variable {K : Frag} {H H' : Hp} {j a b p : Addr} {o : HO}
theorem DxAll.len' : ∀ {vs : List V} {ds : List PyData}, DxAll K H j vs ds → vs.length = ds.length
  | _, _, .nil => rfl
  | _, _, .cons _ t => by rw [List.length_cons, List.length_cons, DxAll.len' t]
theorem DxAll.take' : ∀ {vs : List V} {ds : List PyData} (n : Nat), DxAll K H j vs ds → DxAll K H j (vs.take n) (ds.take n)
  | _, _, 0, _ => .nil
  | _, _, _ + 1, .nil => .nil
  | _, _, n + 1, .cons h t => .cons h (DxAll.take' n t)
theorem DxAll.drop' : ∀ {vs : List V} {ds : List PyData} (n : Nat), DxAll K H j vs ds → DxAll K H j (vs.drop n) (ds.drop n)
  | _, _, 0, h => h
  | _, _, _ + 1, .nil => .nil
  | _, _, n + 1, .cons _ t => DxAll.drop' n t
theorem DxAll.app' : ∀ {vs ws : List V} {ds es : List PyData}, DxAll K H j vs ds → DxAll K H j ws es → DxAll K H j (vs ++ ws) (ds ++ es)
  | _, _, _, _, .nil, h => h
  | _, _, _, _, .cons h t, g => .cons h (DxAll.app' t g)
def cutD (ds : List PyData) (lo hi : Option Int) : List PyData := (ds.drop (HT.sIx ds.length 0 lo)).take (HT.sIx ds.length ds.length hi - HT.sIx ds.length 0 lo)
theorem new_tup' {xs : List V} {ds : List PyData} (hj : H j = some o) (hp : H p = none) (h : DxAll K H j xs ds) : Dx K (upd H p (.tup xs)) j (.ref p) (.tuple ds) :=
  .tup (ne_of_none hj hp).symm (.inl (.inl upd_same)) (DxAll.keep (Eff.same (same_new hp)) ds xs h)
theorem rd_slT {ds : List PyData} {lo hi : Option Int} {Q : VK} (hj : H j = some o) (hx : Dx K H j (.ref a) (.tuple ds)) (q : ∀ v H', Dx K H' j v (.tuple (cutD ds lo hi)) → Same H H' → Q v H') : rSlA K (.ref a) lo hi H Q := by
  cases hx with
  | @tup _ xs _ n s t =>
    have el := t.len'
    refine ⟨a, xs, rfl, s, fun hw => q _ _ ?_ (Same.refl H), fun _ p np => q _ _ ?_ (same_new np)⟩
    · have e : cutD ds lo hi = ds := by
        unfold cutD
        rw [← el, hw.1, hw.2, List.drop_zero]
        exact List.take_of_length_le (by omega)
      rw [e]
      exact .tup n s t
    · have t2 : DxAll K H j (cutV xs lo hi) (cutD ds lo hi) := by
        unfold cutV cutD
        rw [el]
        exact DxAll.take' _ (DxAll.drop' _ t)
      exact new_tup' hj np t2
theorem rd_catT {ds es : List PyData} {Q : VK} (hj : H j = some o) (hx : Dx K H j (.ref a) (.tuple ds)) (hy : Dx K H j (.ref b) (.tuple es)) (hz : ds.length + es.length ≤ 100000)
    (q : ∀ v H', Dx K H' j v (.tuple (ds ++ es)) → Same H H' → Q v H') : rCatA K (.ref a) (.ref b) H Q := by
  cases hx with
  | @tup _ xs _ n s t =>
    cases hy with
    | @tup _ ys _ n2 s2 t2 =>
      have e1 := t.len'
      have e2 := t2.len'
      refine ⟨a, b, xs, ys, rfl, rfl, s, s2, Nat.le_trans (show xs.length + ys.length ≤ 100000 by omega) (by decide), fun z => ?_, fun _ z => ?_, fun _ _ p np => q _ _ (new_tup' hj np (DxAll.app' t t2)) (same_new np)⟩
      · subst z
        cases t
        exact q _ _ (.tup n2 s2 t2) (Same.refl H)
      · subst z
        cases t2
        rw [List.append_nil] at q
        exact q _ _ (.tup n s t) (Same.refl H)
end
/-! ### the end of a law in which no repr runs around -/
theorem law_gd {P : Program} {w : World} {K : Frag} {mg mb : Str → Option Value} {CX : CXT} {k : Nat} {fa a : Addr} {fd : FuncData} {x : Str} {sp : Sp} {s₁ : Shared} {vs : List Value} {ns : List Int}
    (KX : K.In s₁.heap) (hns : s₁.heap.Ns mainGlobals mg) (hb : s₁.heap.Ns builtinsNs mb) (hbb : ∀ x : Str, x ≠ "__name__" → mb x = bootBuiltins x) (lim : s₁.heap.NoLimit) (hg : s₁.gens = #[])
    (ha : s₁.heap.get? a = some { cls := .type "list", data := .seq vs.toArray }) (hi : IntsAre vs ns) (hl : ns.length ≤ sizeLine) (hr : Room k callerA)
    (F : ∀ base : Heap, K.In base → base.Ns mainGlobals mg → FnG P w K mg base CX k fa fd [x] sp) (hbind : ∀ (s : Shared) (u : Value), BindsTo s fd ⟨[u], []⟩ [(x, u)])
    (hsp : ∀ H : Hp, Only H → SqL K H a (ns.map V.int) → sp [.ref a] H (fun v _ => v = .bl true) fun _ _ _ => False) (hCX : ∀ H e s', CX [] H s₁ (fun _ _ _ => False) e s' → False) :
    codeAny (model P w) callerA (.call (.ref fa) ⟨[.ref a], []⟩) (fun r s' => r = .ok (.ret (.bool true)) ∧ OldK s₁.heap s'.heap ∧ s'.os = s₁.os ∧ AllBare s'.gens) s₁ := by
  have rv : Vals (ns.map V.int) vs := L2.vals_ints hi
  have lv := hi.length
  have key : ∀ H : Hp, Only H → SqL K H a (ns.map V.int) → HOk P w H s₁.heap → (∀ b, H b ≠ none → b = a) → (H a ≠ none → K.lookup a = none) →
      codeAny (model P w) callerA (.call (.ref fa) ⟨[.ref a], []⟩) (fun r s' => r = .ok (.ret (.bool true)) ∧ OldK s₁.heap s'.heap ∧ s'.os = s₁.os ∧ AllBare s'.gens) s₁ := by
    intro H only hS hok one notK
    have plain : ∀ {b : Addr} {ob : Obj} {es : Array DictEntry} {ep : Nat}, s₁.heap.get? b = some ob → ob.data = .dict es ep → H b = none := by
      intro b ob es ep e d
      cases q : H b with
      | none => rfl
      | some u =>
        obtain rfl : b = a := one b (by rw [q]; simp)
        rw [ha] at e
        cases e
        exact nomatch (show Data.seq vs.toArray _ = Data.dict es ep from d)
    have ns2 : ∀ {b : Addr} {m : Str → Option Value}, s₁.heap.Ns b m → (hidT s₁.heap H).Ns b m := by
      rintro b m ⟨ob, es, ep, e, d, r⟩
      exact ⟨ob, es, ep, hidT_get e (plain e d), d, r⟩
    have kb : K.In (hidT s₁.heap H) := by
      intro b ob e
      refine hidT_get (KX b ob e) ?_
      cases q : H b with
      | none => rfl
      | some u =>
        obtain rfl : b = a := one b (by rw [q]; simp)
        rw [notK (by rw [q]; simp)] at e
        cases e
    obtain ⟨mc, l1, l2⟩ := lim
    have e0 : Env0 P w K mg (hidT s₁.heap H) callerA [] s₁ H := ⟨rfl, ⟨kb, ns2 hns, ⟨mb, ns2 hb, hbb⟩, ⟨mc, ns2 l1, l2⟩⟩, fun b ob e => of_hidT e, Nat.le_of_eq (hidT_size _ _), trivial,
      (fun b z => nomatch (show b ∈ ([] : List Addr) from z)), hok, .of_eq hg⟩
    refine codeAny_mono ((F _ kb (ns2 hns)).go callerA [] s₁ H ⟨[.ref a], []⟩ [.ref a] [.ref a] _ _ rfl hr e0 (hbind s₁ (.ref a)) (.cons rfl .nil) (hsp H only hS)) (fun r s' h => ?_)
    cases r with
    | error e => exact (hCX H e s' h).elim
    | ok fl =>
      cases fl with
      | next => exact False.elim h
      | brk => exact False.elim h
      | cont => exact False.elim h
      | ret u =>
        obtain ⟨v, H', os, bare, un, hok', r', q⟩ := h
        obtain rfl : v = .bl true := q
        obtain rfl : u = Value.bool true := r'
        refine ⟨rfl, OldK.of_keep (fun b ob e => ?_), os, bare⟩
        cases q : H b with
        | none => exact un.keep b ob e q (fun z => nomatch (show b ∈ ([] : List Addr) from z)) (by simp)
        | some u =>
          cases only b with
          | inl z =>
            rw [q] at z
            cases z
          | inr z =>
            obtain ⟨o1, xs, z⟩ := z
            obtain ⟨e1, _⟩ := hok b _ z
            obtain ⟨e2, _⟩ := hok' b _ (un.frzs b o1 _ z)
            rw [e] at e1
            cases e1
            exact e2
  cases hk : K.lookup a with
  | some ob =>
    have e := KX a ob hk
    rw [ha] at e
    cases e
    exact key (fun _ => none) (fun _ => .inl rfl) (.inr ⟨_, vs.toArray, _, hk, rfl, rfl, rfl, (by rw [List.size_toArray, lv]; exact hl), by simpa using rv⟩) (fun b u z => nomatch (show (none : Option HO) = some u from z)) (fun b z => absurd rfl z) (fun z => absurd rfl z)
  | none =>
    refine key (fun b => if b = a then some (.frz { cls := .type "list", data := .seq vs.toArray } (.lst (ns.map V.int))) else none) (fun b => ?_) (.inl (.inr ⟨{ cls := .type "list", data := .seq vs.toArray }, if_pos rfl⟩)) (fun b u z => ?_) (fun b z => ?_) (fun _ => hk)
    · by_cases h : b = a
      · exact .inr ⟨_, _, if_pos h⟩
      · exact .inl (if_neg h)
    · by_cases h : b = a
      · have z2 := (if_pos h).symm.trans z
        cases z2
        subst h
        exact ⟨ha, (by rw [List.length_map]; exact hl), vs, _, rv, ha⟩
      · exact nomatch ((if_neg h).symm.trans z)
    · by_cases h : b = a
      · exact h
      · exact absurd (if_neg h) z
theorem walk_gd {l : PySem.W.OpenLaw} {n k : Nat} {q : Program} {loose : List Str} {XP : (Str → Option Value) → Heap → Prop} {YP : World → Heap → Prop} {d : DefRec} {K : Params → Frag} {CX : World → CXT} {sp : World → Sp} {x : Str}
    (hn : l.most = some n) (hn2 : n ≤ sizeLine) (hdf : d.params.defaults = []) (hr : Room k callerA) (hY : ∀ (w : World) (h : Heap), YP w h → (K w.params).In h)
    (F : ∀ (w : World) (mg : Str → Option Value) (fa : Addr) (h : Heap), (K w.params).In h → h.Ns mainGlobals mg → mg d.name = some (.ref fa) →
      ∃ fd : FuncData, (∀ (s : Shared) (u : Value), BindsTo s fd ⟨[u], []⟩ [(x, u)]) ∧ ∀ base : Heap, (K w.params).In base → base.Ns mainGlobals mg → FnG l.prog w (K w.params) mg base (CX w) k fa fd [x] (sp w))
    (hsp : ∀ (w : World) (H : Hp) (a : Addr) (ns : List Int), ns.length ≤ n → Only H → SqL (K w.params) H a (ns.map V.int) → sp w [.ref a] H (fun v _ => v = .bl true) fun _ _ _ => False)
    (hCX : ∀ (w : World) (H : Hp) (s : Shared) (e : Value) (s' : Shared), CX w [] H s (fun _ _ _ => False) e s' → False) : PySem.W.WalkO q loose XP YP l.row.toRowW d [] (fun f vs => PySem.call f vs) := by
  refine Att.attach_call hn hdf (fun w s₀ s₁ mg mb fa o pm cd doc a vs ns G Y ho hd hcd hmg hobj hints hlen hg => ?_)
  have kx := hY w _ Y
  obtain ⟨fd, hb, hF⟩ := F w mg fa _ kx G.T.g hmg
  exact law_gd kx G.T.g G.T.b G.T.builtins G.T.nolimit hg hobj hints (Nat.le_trans hlen hn2) hr hF hb (fun H only hS => hsp w H a ns hlen only hS) (fun H e s' => hCX w H s₁ e s')
end Cv

/-! part B4 -/
set_option maxRecDepth 100000
set_option maxHeartbeats 4000000
namespace Cv
open PySem PySem.Spec PyProof.Rows L2
open PySem.W (Frag)
/-! ### the texts of a list, each once -/
def dedStep (σ : List Str) (x : Str) : List Str := if σ.any (· == x) = true then σ else σ ++ [x]
def ded (xs : List Str) : List Str := xs.foldl dedStep []
theorem ded_snoc (xs : List Str) (x : Str) : ded (xs ++ [x]) = dedStep (ded xs) x := by
  unfold ded
  rw [List.foldl_append]
  rfl
theorem ded_le (xs : List Str) : (ded xs).length ≤ xs.length := by
  have key : ∀ (ys σ : List Str), (ys.foldl dedStep σ).length ≤ σ.length + ys.length := by
    intro ys
    induction ys with
    | nil => intro σ; exact Nat.le_refl _
    | cons y ys ih =>
      intro σ
      have h1 := ih (dedStep σ y)
      have h2 : (dedStep σ y).length ≤ σ.length + 1 := by
        unfold dedStep
        split
        · omega
        · rw [List.length_append]; exact Nat.le_refl _
      show (ys.foldl dedStep (dedStep σ y)).length ≤ σ.length + (ys.length + 1)
      omega
  have := key xs []
  simpa [ded] using this
theorem dedStep_any (σ : List Str) (x k : Str) : (dedStep σ x).any (· == k) = (σ.any (· == k) || decide (k = x)) := by
  unfold dedStep
  by_cases h : σ.any (· == x) = true
  · rw [if_pos h]
    by_cases e : k = x
    · rw [e, h]
      rfl
    · rw [decide_eq_false e, Bool.or_false]
  · rw [if_neg h, List.any_append]
    congr 1
    show ((x == k) || false) = decide (k = x)
    rw [Bool.or_false]
    by_cases e : k = x
    · rw [decide_eq_true e, e]
      exact beq_iff_eq.mpr rfl
    · rw [decide_eq_false e]
      exact beq_eq_false_iff_ne.mpr fun z => e z.symm
theorem dedStep_len (σ : List Str) (x : Str) : (dedStep σ x).length = if σ.any (· == x) = true then σ.length else σ.length + 1 := by
  unfold dedStep
  split
  · rfl
  · rw [List.length_append]; rfl
theorem ded_mem : ∀ (ys σ : List Str) (k : Str), k ∈ ys.foldl dedStep σ ↔ k ∈ σ ∨ k ∈ ys
  | [], σ, k => by simp
  | y :: ys, σ, k => by
    show k ∈ ys.foldl dedStep (dedStep σ y) ↔ _
    rw [ded_mem ys]
    have h : k ∈ dedStep σ y ↔ k ∈ σ ∨ k = y := by
      have e : (dedStep σ y).any (· == k) = true ↔ (σ.any (· == k) || decide (k = y)) = true := by rw [dedStep_any]
      simp only [List.any_eq_true, beq_iff_eq, Bool.or_eq_true, decide_eq_true_eq, exists_eq_right] at e
      exact e
    rw [h, List.mem_cons, or_assoc]
theorem ded_nodup {xs : List Str} (h : xs.Nodup) : (ded xs).length = xs.length := by
  have key : ∀ (ys σ : List Str), (σ ++ ys).Nodup → ys.foldl dedStep σ = σ ++ ys := by
    intro ys
    induction ys with
    | nil => intro σ _; exact (List.append_nil σ).symm
    | cons y ys ih =>
      intro σ hn
      have hy : σ.any (· == y) = false := by
        rw [Bool.eq_false_iff]
        intro z
        obtain ⟨a, ha, e⟩ := List.any_eq_true.mp z
        have e' : a = y := beq_iff_eq.mp e
        subst e'
        exact (List.nodup_append.mp hn).2.2 a ha a List.mem_cons_self rfl
      have e1 : dedStep σ y = σ ++ [y] := by
        unfold dedStep
        rw [hy]
        rfl
      show ys.foldl dedStep (dedStep σ y) = _
      rw [e1, ih (σ ++ [y]) (by rw [List.append_assoc]; exact hn), List.append_assoc]
      rfl
  unfold ded
  rw [key xs [] (by simpa using h)]
  rfl
theorem ded_dup {xs : List Str} (h : ¬ xs.Nodup) : (ded xs).length ≠ xs.length := by
  intro e
  refine h ?_
  have key : ∀ (ys σ : List Str), σ.Nodup → (ys.foldl dedStep σ).length = σ.length + ys.length → (σ ++ ys).Nodup := by
    intro ys
    induction ys with
    | nil => intro σ hs _; rw [List.append_nil]; exact hs
    | cons y ys ih =>
      intro σ hs hl
      have b1 : (ys.foldl dedStep (dedStep σ y)).length ≤ (dedStep σ y).length + ys.length := by
        have key2 : ∀ (zs τ : List Str), (zs.foldl dedStep τ).length ≤ τ.length + zs.length := by
          intro zs
          induction zs with
          | nil => intro τ; exact Nat.le_refl _
          | cons z zs ih2 =>
            intro τ
            have h1 := ih2 (dedStep τ z)
            have h2 := dedStep_len τ z
            show (zs.foldl dedStep (dedStep τ z)).length ≤ τ.length + (zs.length + 1)
            split at h2 <;> omega
        exact key2 ys (dedStep σ y)
      have b2 := dedStep_len σ y
      have hl' : (ys.foldl dedStep (dedStep σ y)).length = σ.length + (ys.length + 1) := hl
      by_cases hy : σ.any (· == y) = true
      · rw [if_pos hy] at b2
        omega
      · rw [if_neg hy] at b2
        have e1 : dedStep σ y = σ ++ [y] := by
          unfold dedStep
          rw [if_neg hy]
        have hny : y ∉ σ := fun m => hy (List.any_eq_true.mpr ⟨y, m, beq_iff_eq.mpr rfl⟩)
        have h3 := ih (σ ++ [y]) (by
          rw [List.nodup_append]
          refine ⟨hs, by simp, fun a ha b hb => ?_⟩
          have : b = y := by simpa using hb
          subst this
          exact fun z => hny (z ▸ ha)) (by rw [← e1]; omega)
        rw [List.append_assoc] at h3
        exact h3
  have := key xs [] List.nodup_nil (by simpa [ded] using e)
  simpa using this
/-! ### set(t), t a tuple of texts -/
section
variable {prog : Program} {w : World} {A : Around} {E : Value → Shared → Prop} {s : Shared}
theorem many_add {R : Result → Shared → Prop} {I : Addr} {fp wr : List Addr} {G : Array GenState → Array GenState → Prop} {Pv : Nat → Value → Prop} {St : Nat → Shared → Prop} {xs : List Str} (W : WalksS prog w A.in1 I fp wr G xs.length Pv St) {S : Addr} (hSf : S ∉ fp)
    (hv : ∀ i v, Pv i v → ∃ x t, xs[i]? = some x ∧ v = .str x t) (hb : xs.length + 1 < scanBound) : ∀ (k i : Nat) (s : Shared), i + k = xs.length → St i s → s.heap.SetOf (strKind prog w) S (fun y => (ded (xs.take i)).any (· == y)) (ded (xs.take i)).length →
      (∀ s', Moved (S :: wr) G s s' → s'.heap.SetOf (strKind prog w) S (fun y => (ded xs).any (· == y)) (ded xs).length → R (.ok (.ret .none)) s') → codeAny (model prog w) A (.builtin "set.update.loop" ⟨[.ref S, .ref I], []⟩) R s := by
  have out : S ∉ wr := fun m => hSf (W.sub _ m)
  have wide : ∀ b ∈ wr, b ∈ S :: wr := fun b m => List.mem_cons_of_mem _ m
  have stays : ∀ {s s' : Shared} {F : Str → Bool} {n : Nat}, Moved wr G s s' → s.heap.SetOf (strKind prog w) S F n → s'.heap.SetOf (strKind prog w) S F n := by
    rintro s s' F n m ⟨o, es, ep, t, ho, r⟩
    exact ⟨o, es, ep, t, m.heap S _ out ho, r⟩
  intro k
  induction k with
  | zero =>
    intro i s hi st hS fin
    have e : i = xs.length := hi
    subst e
    refine codeAny_builtin PyProof.Rows.F.entry_set_update_loop ?_
    rw [Around.under_plainId PyProof.Rows.F.plain_set_update_loop _]
    refine wpAny_bind (m := pyNext (.ref I)) (W.done s _ _ st fun s' m => ?_)
    rw [List.take_length] at hS
    exact wpAny_pure (fin s' (m.mono wide) (stays m hS))
  | succ k ih =>
    intro i s hi st hS fin
    refine codeAny_builtin PyProof.Rows.F.entry_set_update_loop ?_
    rw [Around.under_plainId PyProof.Rows.F.plain_set_update_loop _]
    refine wpAny_bind (m := pyNext (.ref I)) (W.item i s _ _ (by omega) st fun v s' p st' m => ?_)
    obtain ⟨x, t, hx, rfl⟩ := hv i v p
    have hS' := stays m hS
    have e1 : ded (xs.take (i + 1)) = dedStep (ded (xs.take i)) x := by rw [List.take_add_one, hx, ← ded_snoc]; rfl
    have hl : (ded (xs.take i)).length ≤ i := Nat.le_trans (ded_le _) (by rw [List.length_take]; omega)
    refine wpAny_bind (m := holding [Value.str x t] (setAdd S (.str x t))) (wpAny_holding (wpAny_holding (wpAny_bind ((strKind prog w).pyHash (k := x) (strKind_is _ _ _ _) ?_))))
    refine wpAny_setAddHashed_of (knd := strKind prog w) (s := { s' with toks := s'.toks + 1 }) (strKind_is _ _ _ _) rfl hS' (by omega) fun h' sb hS2 => ?_
    have hS3 : h'.SetOf (strKind prog w) S (fun y => (ded (xs.take (i + 1))).any (· == y)) (ded (xs.take (i + 1))).length := PyProof.Rows.SetOf_congr hS2 (fun y => by rw [e1, dedStep_any]) (by rw [e1, dedStep_len])
    refine wpAny_pure ⟨plainId_quiet PyProof.Rows.F.plain_set_update_loop _, ih (i + 1) _ (by omega) (W.frame _ s' _ _ st' (Nat.le_succ _) fun b m2 o e => (sb.2 b fun z => hSf (z ▸ m2)).trans e) hS3 fun s2 m2 hS4 => ?_⟩
    exact fin s2 (Moved.trans W.gtrans ((m.mono wide).then_heap (Nat.le_succ _) fun b o z e => (sb.2 b fun y => z (y ▸ List.mem_cons_self)).trans e) m2) hS4
abbrev setOb (led : Bool) : Obj := { cls := .type "set", dict := none, data := .set #[] 0 (.fresh 0 0 led) }
/-- set(v): a fresh set, then its __init__ -/
theorem set_open {v : Value} {Q : Value → Shared → Prop} (h : ∀ led : Bool, wpAny (model prog w) A.in1.in1 (Builtin.«set.__init__» ⟨[.ref s.heap.objs.size, v], []⟩)
      (fun fin s' => match fin with | .done f => wants (fun r s₂ => r = .none ∧ Q (.ref s.heap.objs.size) s₂) E (.ok f) s' | .again c' => c'.quiet = true ∧ codeAny (model prog w) A.in1 c' (wants (fun r s₂ => r = .none ∧ Q (.ref s.heap.objs.size) s₂) E) s')
      (fun e s' => wants (fun r s₂ => r = .none ∧ Q (.ref s.heap.objs.size) s₂) E (.error e) s') { s with heap := s.heap.push (setOb led) }) : wpAny (model prog w) A (call (.type "set") [v]) Q E s := by
  obtain ⟨c, tl, hmro⟩ := PySem.F.called_set.mro
  have k1 := PySem.F.called_set.made
  have k2 := PySem.F.called_set.sub
  refine wpAny_call (codeAny_of_tree (show wpAny _ _ (callAny (.type "set") _) _ _ _ from wpAny_pure ⟨Code.quiet_builtin _ (by decide +kernel), codeAny_builtin PySem.F.entry_type_call ?_⟩))
  rw [Around.under_plain (weight_type_call_type "set" [v] []) rfl]
  have k3 := PySem.F.called_set.notType
  have k4 := PySem.F.called_set.canCreate
  have k5 := PySem.F.typeCall_set_1 v
  repeat (any_goals (first | assumption | wp_step))
  refine codeAny_mono (code_set_new_1 v (E := E) (Q₁ := fun obj s₁ => ∃ led : Bool, obj = .ref s.heap.objs.size ∧ s₁ = { s with heap := s.heap.push (setOb led) }) fun led => ⟨led, rfl, rfl⟩) fun r s₁ hr => ?_
  match r, hr with
  | .error e, hr => exact hr
  | .ok (.ret obj), hr =>
    obtain ⟨led, rfl, rfl⟩ := hr
    have hT : Shared.TypeIs { s with heap := s.heap.push (setOb led) } (.ref s.heap.objs.size) "set" := ⟨_, Heap.get?_push_size _ rfl, rfl⟩
    have k6 := PySem.F.called_set.init.lookup
    have k7 := PySem.F.called_set.init.bind (.ref s.heap.objs.size)
    repeat (any_goals (first | assumption | wp_step))
    refine codeAny_mono (codeAny_call_builtin (R := wants (fun r s₂ => r = .none ∧ Q (.ref s.heap.objs.size) s₂) E) PySem.F.called_set.init.plain PySem.F.entry_set_init (check_set_init_1 hT (h led))) fun r₂ s₂ hr₂ => ?_
    match r₂, hr₂ with
    | .error e, hr₂ => exact hr₂
    | .ok (.ret r), hr₂ =>
      obtain ⟨rfl, q⟩ := hr₂
      repeat (any_goals (first | assumption | wp_step))
theorem call_set_texts {l : Addr} {items : Array Value} {xs : List Str} {Q : Value → Shared → Prop} (hh : A.handled = none) (hl : s.heap.IsTuple l items) (hi : StrsAre items.toList xs) (hb : xs.length + 1 < scanBound)
    (h : ∀ (h' : Heap) (tk : Nat), h'.SetOf (strKind prog w) s.heap.objs.size (fun y => (ded xs).any (· == y)) (ded xs).length → (∀ b o, s.heap.get? b = some o → h'.get? b = some o) → Q (.ref s.heap.objs.size) { s with heap := h', toks := tk }) : wpAny (model prog w) A (call (.type "set") [.ref l]) Q E s := by
  refine set_open fun led => ?_
  have hsz : items.size = xs.length := by rw [← StrsAre.len_eq hi, Array.length_toList]
  obtain ⟨⟨oc, od, oda, osl⟩, hol, hcl, nl, hdl⟩ := hl
  simp only at hcl hdl
  subst hcl hdl
  have ltl : l < s.heap.objs.size := Heap.lt_size hol
  have hol' : (s.heap.push (setOb led)).get? l = some { cls := .type "tuple", dict := od, data := .seq items nl, slots := osl } := Heap.get?_push_of_some _ hol
  have hl1 : (s.heap.push (setOb led)).IsTuple l items := ⟨_, hol', rfl, nl, rfl⟩
  have hT : Shared.TypeIs { s with heap := s.heap.push (setOb led) } (.ref s.heap.objs.size) "set" := ⟨_, Heap.get?_push_size _ rfl, rfl⟩
  have hS : (s.heap.push (setOb led)).get? s.heap.objs.size = some (setOb led) := Heap.get?_push_size _ rfl
  have k8 := PySem.F.sub_tuple_set
  have k9 := PySem.F.sub_tuple_frozenset
  have k10 : (Value.type "tuple" == Value.type "dict") = false := by decide
  unfold Builtin.«set.__init__» noKeywords Builtin.Frozenset.updateFrom
  generalize hPI : pyIter = PI
  wp_walk
  subst hPI
  have e1 : (s.heap.push (setOb led)).objs.size = s.heap.objs.size + 1 := Heap.size_push ..
  have hout : s.heap.objs.size ∉ [(s.heap.push (setOb led)).objs.size, l] := by
    rw [e1]
    intro m
    rcases List.mem_cons.mp m with z | z
    · exact Nat.ne_of_lt (Nat.lt_succ_self _) z
    · exact Nat.ne_of_gt ltl (List.mem_singleton.mp z)
  have hh3 : A.in1.in1.in1.handled = none := by simp [hh]
  refine wpAny_pyIter_tuple hl1 (wpAny_bind (wpAny_runValue ?_))
  have W0 := (Walks.tuple (prog := prog) (w := w) hh3 _ l (show l ≠ (s.heap.push (setOb led)).objs.size by rw [e1]; exact Nat.ne_of_lt (Nat.lt_succ_of_lt ltl)) items).toS
  rw [hsz] at W0
  refine many_add (xs := xs) W0 hout (fun i v p => ?_) hb xs.length 0 _ (by omega) ⟨⟨_, Heap.get?_push_size _ rfl, rfl, rfl⟩, hl1.push _⟩ ?_ ?_
  · have hil : i < xs.length := by rw [← hsz]; exact (Array.getElem?_eq_some_iff.mp p).1
    obtain ⟨t, e⟩ := SS.strs_at hi i v (by rw [Array.getElem?_toList]; exact p)
    refine ⟨xs[i], t, List.getElem?_eq_getElem hil, ?_⟩
    rw [e, List.getD_eq_getElem?_getD, List.getElem?_eq_getElem hil]
    rfl
  · exact PyProof.Rows.SetOf_congr ((PyProof.Rows.setObjOf_fresh (knd := strKind prog w) led).setOf (Heap.get?_push_of_some _ hS) (by unfold scanBound; omega)) (fun _ => rfl) rfl
  · rintro ⟨h', g', d', tk', os'⟩ m hS'
    obtain rfl : g' = s.gens := m.gens
    obtain rfl : d' = s.drawn := m.drawn
    obtain rfl : os' = s.os := m.os
    refine wpAny_pure (show wpAny _ _ (ret Value.none) _ _ _ from wpAny_pure ⟨rfl, h h' tk' hS' fun b o e => ?_⟩)
    have lb := Heap.lt_size e
    refine m.heap b o (fun z => ?_) (Heap.get?_push_of_some _ (Heap.get?_push_of_some _ e))
    rcases List.mem_cons.mp z with z | z
    · exact Nat.ne_of_lt lb z
    · rw [e1] at z
      rcases List.mem_cons.mp z with z | z
      · exact Nat.ne_of_lt (Nat.lt_succ_of_lt lb) z
      · cases z
end
end Cv

/-! part B5 -/

set_option maxRecDepth 100000
set_option maxHeartbeats 4000000
namespace Cv
open PySem PySem.Spec PyProof.Rows L2
open PySem.W (Frag)
/-! ### t[::-1] -/
theorem adj_rev (n : Nat) : Builtin.Slice.sliceAdjust none none (-1) (n : Int) = ((n : Int) - 1, -1) := rfl
theorem places_rev (n : Nat) : Builtin.Slice.slicePlaces ((n : Int) - 1) (-1) (-1) = n := by
  unfold Builtin.Slice.slicePlaces
  rw [if_neg (by decide)]
  by_cases h : n = 0
  · subst h
    decide
  · rw [if_pos (by omega)]
    show (((n : Int) - 1 - (-1) - 1) / 1 + 1).toNat = n
    rw [Int.ediv_one]
    omega
theorem pick_rev (xs : Array Value) : (((List.range xs.size).filterMap fun (k : Nat) => xs[(((xs.size : Int) - 1) + (k : Int) * (-1)).toNat]?)).toArray = xs.toList.reverse.toArray := by
  congr 1
  refine List.ext_getElem? fun i => ?_
  have key : ∀ m, m ≤ xs.size → (List.range m).filterMap (fun (k : Nat) => xs[(((xs.size : Int) - 1) + (k : Int) * (-1)).toNat]?) = xs.toList.reverse.take m := by
    intro m
    induction m with
    | zero => intro _; rfl
    | succ m ih =>
      intro hm
      rw [List.range_succ, List.filterMap_append, ih (by omega), List.take_add_one]
      congr 1
      have e : (((xs.size : Int) - 1) + (m : Int) * (-1)).toNat = xs.size - 1 - m := by omega
      show (List.filterMap (fun (k : Nat) => xs[(((xs.size : Int) - 1) + (k : Int) * (-1)).toNat]?) [m]) = _
      rw [List.filterMap_cons, e]
      have h2 : xs.toList.reverse[m]? = xs[xs.size - 1 - m]? := by
        rw [List.getElem?_reverse (by rw [Array.length_toList]; omega), Array.length_toList, Array.getElem?_toList]
      rw [h2]
      cases xs[xs.size - 1 - m]? with
      | none => rfl
      | some v => rfl
  rw [key xs.size (Nat.le_refl _), List.take_of_length_le (by rw [List.length_reverse, Array.length_toList]; exact Nat.le_refl _)]
section
variable {prog : Program} {w : World} {A : Around} {E : Value → Shared → Prop} {s : Shared}
theorem applied_rev {sl : Addr} {vl vu vs : Value} {n : Nat} {Q : Int × Int × Nat → Shared → Prop} (hs : s.heap.IsSliceOf sl vl vu vs) (pl : IsPart vl none) (pu : IsPart vu none) (ps : IsPart vs (some (-1)))
    (h : Q ((n : Int) - 1, -1, n) s) : wpAny (model prog w) A (Builtin.Slice.sliceApplied (.ref sl) (pure (n : Int))) Q E s := by
  obtain ⟨os, ho, hc, hd⟩ := id hs
  unfold Builtin.Slice.sliceApplied Builtin.Slice.sliceFields
  refine wpAny_bind (wpAny_bind (wpAny_field ho hd (x := vl) rfl (wpAny_bind (wpAny_field ho hd (x := vu) rfl (wpAny_bind (wpAny_field ho hd (x := vs) rfl (wpAny_pure ?_)))))))
  refine wpAny_bind (HT.slicePart_ ps ?_)
  show wpAny _ _ (if ((-1 : Int) == 0) = true then _ else _) _ _ s
  rw [if_neg (by decide)]
  refine wpAny_bind (HT.slicePart_ pl (wpAny_bind (HT.slicePart_ pu (wpAny_bind (wpAny_pure ?_)))))
  show wpAny _ _ (match Builtin.Slice.sliceAdjust none none (-1) (n : Int) with | (lo, hi) => pure (lo, (-1 : Int), Builtin.Slice.slicePlaces lo hi (-1))) _ _ s
  rw [adj_rev n]
  show wpAny _ _ (pure ((n : Int) - 1, (-1 : Int), Builtin.Slice.slicePlaces ((n : Int) - 1) (-1) (-1))) _ _ s
  rw [places_rev]
  exact wpAny_pure h
theorem item_rev {t sl : Addr} {items : Array Value} {vl vu vs : Value} {Q : Value → Shared → Prop} (ht : IsTup s.heap t items) (hs : s.heap.IsSliceOf sl vl vu vs) (pl : IsPart vl none) (pu : IsPart vu none) (ps : IsPart vs (some (-1)))
    (h : Q (.ref s.heap.objs.size) { s with heap := s.heap.push { cls := .type "tuple", data := .seq items.toList.reverse.toArray } }) (hsz : items.size ≤ sizeLine) : wpAny (model prog w) A (getItem (.ref t) (.ref sl)) Q E s := by
  have fits : sizeOk (.seq items.toList.reverse.toArray) := by
    show items.toList.reverse.toArray.size ≤ sizeLine
    rw [List.size_toArray, List.length_reverse, Array.length_toList]
    exact hsz
  obtain ⟨os, ho, hc, hd⟩ := id hs
  have hT : s.TypeIs (.ref sl) "slice" := ⟨os, ho, hc⟩
  unfold getItem
  try with_reducible refine wpAny_holding ?_
  first | refine wpAny_bind (wpAny_pure ?_) | skip
  refine wpAny_bind (wpAny_sequenceKey ht.typeIs (by decide) (wpAny_bind (wpAny_callSpecial?_slot (name := Str.ofString "__getitem__") ht.typeIs PyProof.Rows.slot_tuple_getitem (wpAny_call_entry PyProof.Rows.slot_tuple_getitem ht.typeIs entry_tuple_getitem ?_ (args_tuple_getitem _ _)))))
  show wpAny _ _ (Builtin.Tuple.tupleItemsOf (.ref t) >>= _) _ _ s
  refine wpAny_bind (tupleItemsOf_ ht (wpAny_bind (wpAny_typeOf hT ?_)))
  rw [if_pos (by decide)]
  refine wpAny_bind (applied_rev hs pl pu ps ?_)
  have no : ¬ ((((items.size : Int) - 1) == 0 && (-1 : Int) == 1 && items.size == items.size) = true) := by
    intro q
    rw [Bool.and_eq_true, Bool.and_eq_true] at q
    exact absurd q.1.2 (by decide)
  show wpAny _ _ (if (((items.size : Int) - 1) == 0 && (-1 : Int) == 1 && items.size == items.size) = true then _ else _) _ _ s
  rw [if_neg no, pick_rev]
  first
    | exact wpAny_bind (m := Builtin.Tuple.tupleExact _) (wpAny_newObj_type (wpAny_pure ⟨_, rfl, wpAny_pure h⟩) fits)
    | exact wpAny_bind (m := Builtin.Tuple.tupleExact _) (wpAny_newObj_type (wpAny_bind (wpAny_pure (wpAny_pure ⟨_, rfl, wpAny_pure h⟩))) fits)
    | exact wpAny_bind (wpAny_bind (m := Builtin.Tuple.tupleExact _) (wpAny_newObj_type (wpAny_pure (wpAny_pure ⟨_, rfl, wpAny_pure h⟩)) fits))
    | exact wpAny_bind (wpAny_bind (m := Builtin.Tuple.tupleExact _) (wpAny_newObj_type (wpAny_pure ⟨_, rfl, wpAny_pure h⟩) fits))
end
section
variable {X : Cx}
def tRevT (K : Frag) (te : TE) : TE := fun σ H Q => te σ H fun x H1 => ∃ a xs, x = .ref a ∧ SqT K H1 a xs ∧ ∀ p, H1 p = none → Q (.ref p) (upd H1 p (.tup xs.reverse))
theorem pe_revT {e : Expr} {te : TE} {k : Nat} {p1 p2 p3 pos : Pos} (he : PE X e te) : PE X (.Subscript e (.Slice none none (some (.UnaryOp .USub (.Constant (.int 1) k p1) p2)) p3) pos) (tRevT X.K te) := by
  refine ⟨fun pins s σ H Q I h => ?_⟩
  refine Subscript_ (thn (he.run pins s σ H _ I h) fun v s1 ⟨x, H1, I1, r1, q1⟩ => ?_)
  obtain ⟨a, xs, rfl, hx, q⟩ := q1
  cases r1
  have one : PO X (some (.UnaryOp .USub (.Constant (.int 1) k p1) p2)) (tPart (tUn (rU fun i => .int (-i)) (tC (.int 1)))) := po_some (pe_un un_neg pe_int)
  refine wpAny_Slice (thn (po_none.run pins s1 σ H1 (fun o H2 => o = none ∧ H2 = H1) I1 ⟨rfl, rfl⟩) fun vl s2 ⟨l, H2, I2, pl, el, e2⟩ => ?_)
  subst el e2
  refine thn (po_none.run pins s2 σ H2 (fun o H3 => o = none ∧ H3 = H2) I2 ⟨rfl, rfl⟩) fun vu s3 ⟨u, H3, I3, pu, eu, e3⟩ => ?_
  subst eu e3
  refine thn (one.run pins s3 σ H3 (fun o H4 => o = some (-1) ∧ H4 = H3) I3 ⟨1, rfl, -1, rfl, rfl, rfl⟩) fun vs s4 ⟨o, H4, I4, ps, eo, e4⟩ => ?_
  subst eo e4
  have I5 : Inv X pins σ H4 { s4 with heap := s4.heap.push { cls := .type "slice", data := .fields #[vl, vu, vs] } } := I4.kept (t' := s4.toks) fun b ob q => Heap.get?_push_of_some _ q
  obtain ⟨its, r, ht, hz⟩ := I5.tuple hx
  have hlen := r.length
  show wpAny (model X.prog X.w) X.A (subscriptTail e (.Slice none none (some (.UnaryOp .USub (.Constant (.int 1) k p1) p2)) p3) (.ref a) (.ref s4.heap.objs.size)) (EP X pins σ Q) X.xe { s4 with heap := s4.heap.push { cls := .type "slice", data := .fields #[vl, vu, vs] } }
  refine tail_any (ops := [.ref a, .ref s4.heap.objs.size]) ht.typeIs (PyProof.Rows.slot_tuple_getitem.lookup) ?_ (by with_unfolding_all rfl)
  refine item_rev ht (Heap.IsSliceOf.new _ vl vu vs) pl pu ps ?_ (by rw [List.size_toArray, ← hlen]; exact hz)
  refine ⟨.ref _, _, I5.laid (t' := s4.toks) (o := .tup xs.reverse) (fun b ob q => Heap.get?_push_of_some _ q) (Nat.le_refl _) ?_, rfl, q _ (I5.hok.fresh (Nat.le_refl _))⟩
  exact ⟨by rw [List.length_reverse]; exact hz, _, r.reverse, IsTup.new _ _⟩
end
end Cv

/-! part B6 -/
set_option maxRecDepth 100000
set_option maxHeartbeats 4000000
namespace Cv
open PySem PySem.Spec PyProof.Rows L2
open PySem.W (Frag)
/-! ### sorted(t), t a tuple of texts -/
section
variable {prog : Program} {w : World} {A : Around} {E : Value → Shared → Prop} {s : Shared}
theorem tup_collect {l : Addr} {vs : List Value} {Q : List Value → Shared → Prop} (ht : IsTup s.heap l vs.toArray) (hz : vs.length ≤ sizeLine)
    (h : Q vs { s with heap := (s.heap.push (seqObj "list" #[] 0)).update s.heap.objs.size (Obj.mapSeq (· ++ vs.toArray)) }) : wpAny (model prog w) A (collect (.ref l)) Q E s := by
  obtain ⟨o, ho, hc, n, hd⟩ := id ht
  have old : (s.heap.push (seqObj "list" #[] 0)).get? l = some o := Heap.get?_push_of_some _ ho
  have new : (s.heap.push (seqObj "list" #[] 0)).get? s.heap.objs.size = some (seqObj "list" #[] 0) := Heap.get?_push_size _ rfl
  unfold collect
  refine wpAny_bind (wpAny_runValue (codeAny_builtin entry_proto_collect' (show wpAny _ _ (do again (.builtin "list.__iadd__" ⟨[← newList [], .ref l], []⟩)) _ _ s from
    wpAny_bind (wpAny_newList (wpAny_pure ⟨Code.quiet_builtin _ (by decide +kernel), codeAny_builtin entry_list_iadd' ?_⟩)))))
  show wpAny _ _ (Builtin.List.listExtendWith (.ref s.heap.objs.size) (.ref l) (.ref s.heap.objs.size)) _ _ { s with heap := s.heap.push (seqObj "list" #[] 0) }
  unfold Builtin.List.listExtendWith
  refine wpAny_bind (wpAny_typeOf (T := "tuple") ⟨o, old, hc⟩ ?_)
  rw [if_pos (by rw [show (Value.type "tuple" == Value.type "tuple") = true from rfl]; simp)]
  refine wpAny_bind (listItems_at old hd (wpAny_bind (listItems_at (xs := #[]) (n := 0) new rfl ?_)))
  rw [if_neg (by simp)]
  refine wpAny_bind (listUpdate_at (xs := #[]) (n := 0) new rfl (wpAny_pure ?_) (Nat.zero_le _) (by show (#[] ++ vs.toArray).size ≤ sizeLine + 1; simp only [Array.size_append, List.size_toArray, List.length_nil]; omega))
  refine wpAny_bind (wpAny_load (get?_update_seq new _) (show wpAny _ _ (pure ((#[] : Array Value) ++ vs.toArray).toList) Q E _ from ?_))
  rw [show ((#[] : Array Value) ++ vs.toArray).toList = vs by simp]
  exact wpAny_pure h
theorem tup_sorted {l : Addr} {vs : List Value} {ss : List Str} {Q : Value → Shared → Prop} (ht : IsTup s.heap l vs.toArray) (hS : StrsAre vs ss) (hz : vs.length ≤ sizeLine)
    (h : ∀ (out : Array Value) (ss' : List Str), StrsAre out.toList ss' → ss'.Perm ss → sortedS ss' = true → Q (.ref (s.heap.objs.size + 1)) { s with heap := sortedAll s.heap vs out }) : wpAny (model prog w) A (call (.builtin "sorted") [.ref l]) Q E s := by
  refine Calls.call_function_entry kind_sorted plain_sorted entry_sorted (args_sorted1 _) ?_
  unfold Builtin.«sorted»
  refine wpAny_bind (m := checkCount "sorted" 1 1 _) (wpAny_pure (wpAny_bind (tup_collect ht hz (wpAny_bind (wpAny_newList ?_ hz)))))
  have e1 : ((s.heap.push (seqObj "list" #[] 0)).update s.heap.objs.size (Obj.mapSeq (· ++ vs.toArray))).objs.size = s.heap.objs.size + 1 := by rw [Heap.size_update, size_push']
  have at1 : (((s.heap.push (seqObj "list" #[] 0)).update s.heap.objs.size (Obj.mapSeq (· ++ vs.toArray))).push (seqObj "list" vs.toArray 0)).get? (s.heap.objs.size + 1) = some (seqObj "list" vs.toArray 0) := by rw [← e1]; exact Heap.get?_push_size _ rfl
  show wpAny _ _ _ _ _ { s with heap := ((s.heap.push (seqObj "list" #[] 0)).update s.heap.objs.size (Obj.mapSeq (· ++ vs.toArray))).push (seqObj "list" vs.toArray 0) }
  rw [e1]
  refine wpAny_bind (wpAny_holding (wpAny_call_entry slot_list_sort ⟨_, at1, rfl⟩ entry_list_sort (list_sort_treeKAny strKind_oneLt at1 hS.keysOf (fun v₁ v₂ rest e => keyKind_strs (by rw [← e]; exact hS)) hz fun st hp hs => ⟨_, rfl, ?_⟩) (args_list_sort _)))
  obtain ⟨ss', h1, h2, h3⟩ := sorted_out_str hS hp hs
  exact wpAny_pure ⟨_, rfl, h _ ss' h1 h2 h3⟩
end
section
variable {X : Cx}
def rSortT (K : Frag) : List V → Hp → VK → Prop := fun vs H Q => ∃ (a : Addr) (xs : List Str), vs = [V.ref a] ∧ SqT K H a (xs.map V.str) ∧ ∀ (ys : List Str) (p : Addr), ys.Perm xs → sortedS ys = true → H p = none → Q (.ref p) (upd H p (.lst (ys.map V.str)))
theorem cr_sortT : CallR X (.builtin "sorted") (rSortT X.K) := by
  intro pins s σ H vs us Q I r h
  obtain ⟨a, xs, rfl, hs, q⟩ := h
  obtain ⟨its, rv, ht, hz⟩ := I.tuple hs
  rw [Vals.ref1 r]
  have l0 := rv.length
  refine tup_sorted ht rv.strs (by rw [← l0]; exact hz) fun out ys h1 h2 h3 => ?_
  obtain ⟨ep, he⟩ := PyProof.Rows.sortedAll_at s.heap its out
  have hl : (ys.map V.str).length ≤ sizeLine := by rw [List.length_map, h2.length_eq, ← List.length_map (f := V.str)]; exact hz
  exact ⟨.ref _, upd H (s.heap.objs.size + 1) (.lst (ys.map V.str)), I.laid (t' := s.toks) (fun _ _ => PyProof.Rows.sortedAll_old) (Nat.le_succ _) ⟨hl, out.toList, ep, vals_of_strs h1, he⟩, rfl, q ys _ h2 h3 (I.hok.fresh (Nat.le_succ _))⟩
/-! ### len(set(t)) -/
def tLenSetT (K : Frag) (ta : TE) : TE := fun σ H Q => ta σ H fun x H1 => ∃ (l : Addr) (xs : List Str), x = V.ref l ∧ SqT K H1 l (xs.map V.str) ∧ xs.length ≤ 4000 ∧ Q (.int (ded xs).length) H1
theorem pe_lenSetT {a : Expr} {ta : TE} {p p2 q pos : Pos} (hc : X.calm = true) (hg : Gl X "len") (hm : X.mg "len" = none) (hg2 : Gl X "set") (hm2 : X.mg "set" = none) (ha : PE X a ta)
    (na : starEach [a] X.env = (false, eval a X.env) :: starEach [] X.env := by rfl) : PE X (.Call (.Name "len" p) [.Call (.Name "set" p2) [a] [] q] [] pos) (tLenSetT X.K ta) := by
  refine ⟨fun pins s σ H Q I h => ?_⟩
  refine Call_ (ld_blt I hg hm PySem.boot_len (PyProof.Rows.callWith_builtin1 (PyProof.Rows.args_cons (Call_ (ld_blt I hg2 hm2 PyProof.Rows.boot_set
    (PyProof.Rows.callWith_type1 (PyProof.Rows.args_cons (thn (ha.run pins s σ H _ I h) fun v s1 ⟨x, H1, I1, r1, q1⟩ => PyProof.Rows.args_nil ?_) na) na rfl))) rfl) rfl rfl))
  obtain ⟨l, xs, rfl, hq, hz, q1⟩ := q1
  cases r1
  obtain ⟨its, r, pt, _⟩ := I1.tuple hq
  refine call_set_texts (I1.ok.hd hc) pt (xs := xs) (by simpa using r.strs) (by unfold scanBound; omega) fun h' tk hS hk => PyProof.Rows.args_nil ?_
  obtain ⟨o, es, ep, t, ho, hex, hd, _, _, _, hf, hn⟩ := hS
  have I2 : Inv X pins σ H1 { s1 with heap := h', toks := tk } := I1.kept hk
  have le := ded_le xs
  refine call_len_set ho hex hd hf (by rw [hn]; omega) ⟨.int (ded xs).length, H1, I2.tok _, ⟨_, by rw [hn]⟩, q1⟩
/-! ### dicts of data, with the same keys -/
def SmD (d : PyData) : Prop := d.canLay0 = true ∧ d.depth ≤ 60
def rEqD (K : Frag) : R2 := fun x y H Q => ∃ (a b : Addr) (j1 j2 : Addr) (ys : List Key) (vs ws : List V) (ds es : List PyData), x = .ref a ∧ y = .ref b ∧ H a = some (.dK (ys.zip vs)) ∧ H b = some (.dK (ys.zip ws)) ∧ ys.Nodup ∧ vs.length = ys.length ∧ ws.length = ys.length ∧
  DxAll K H j1 vs ds ∧ DxAll K H j2 ws es ∧ (∀ d ∈ ds, SmD d) ∧ (∀ d ∈ es, SmD d) ∧ Q (.bl ((ds.zip es).all fun p => PyData.eqv p.1 p.2)) H
theorem hits_data {pins : List (Addr × Obj)} {σ : L2.St} {H : Hp} {s : Shared} {j1 j2 : Addr} {A : Around} (I : Inv X pins σ H s) (hu : A.units + 60 < cLine) {full : List (Key × V)} {vb : List (Key × Value)} (rb : KV full vb) :
    ∀ (ys : List Key) (vs ws : List V) (ds es : List PyData) (va : List (Key × Value)), vs.length = ys.length → ws.length = ys.length → KV (ys.zip vs) va → (∀ p ∈ ys.zip ws, valV full p.1 = some p.2) → DxAll X.K H j1 vs ds → DxAll X.K H j2 ws es →
      (∀ d ∈ ds, SmD d) → (∀ d ∈ es, SmD d) → PySem.W.KeqHits A s vb va ((ds.zip es).all fun p => PyData.eqv p.1 p.2)
  | [], vs, ws, ds, es, va, lv, lw, ra, _, hd, he, _, _ => by
    cases vs with
    | cons _ _ => exact nomatch lv
    | nil =>
      cases hd
      cases ra
      exact .nil
  | y :: ys, vs, ws, ds, es, va, lv, lw, ra, hf, hd, he, sd, se => by
    match vs, ws, lv, lw with
    | v :: vs, w :: ws, lv, lw =>
      match ra, hd, he with
      | .cons (b := q) (l₂ := qs) r1 r2, .cons (d := d) (ds := ds) h1 h2, .cons (d := e) (ds := es) g1 g2 =>
        obtain ⟨k, u⟩ := q
        obtain ⟨e1, rv⟩ := r1
        have e1' : y = k := e1
        subst e1'
        have rr : RelO (some w) (valueAt vb y) := by rw [← hf (y, w) List.mem_cons_self]; exact rb.val y
        obtain ⟨z, hz, rz⟩ := rr.some_of
        obtain ⟨as, k1⟩ := Dx.reads I d v u h1 rv
        obtain ⟨bs, k2⟩ := Dx.reads I e w z g1 rz
        obtain ⟨c1, c2⟩ := sd d List.mem_cons_self
        obtain ⟨c3, c4⟩ := se e List.mem_cons_self
        refine .hit hz (SeqAt.eqAt_reads d e A s u z as bs k1 k2 c1 c3 (by omega)) ?_
        exact hits_data I hu rb ys vs ws ds es qs (Nat.succ.inj lv) (Nat.succ.inj lw) r2 (fun p hp => hf p (List.mem_cons_of_mem _ hp)) h2 g2 (fun d hd => sd d (List.mem_cons_of_mem _ hd)) (fun d hd => se d (List.mem_cons_of_mem _ hd))
theorem op_eqD (hu : X.A.units + 64 < cLine) : OpR X (compareOp .Eq) (rEqD X.K) := by
  intro pins s σ H x y v u Q I rx ry h
  obtain ⟨a, b, j1, j2, ys, vs, ws, ds, es, rfl, rfl, ea, eb, nd, lv, lw, hd, he, sd, se, q⟩ := h
  obtain rfl : v = Value.ref a := rx
  obtain rfl : u = Value.ref b := ry
  obtain ⟨_, ya, va, ra, da⟩ := (show ObjOk X.prog X.w H s.heap a (.dK (ys.zip vs)) from I.hok a _ ea)
  obtain ⟨_, yb, vb, rb, db⟩ := (show ObjOk X.prog X.w H s.heap b (.dK (ys.zip ws)) from I.hok b _ eb)
  have hl : va.length = vb.length := by
    rw [← ra.length, ← rb.length, List.length_zip, List.length_zip, lv, lw]
  have nd2 : ((ys.zip ws).map (·.1)).Nodup := by
    rw [List.map_fst_zip (by omega)]
    exact nd
  exact PySem.W.keq_eq (knd := mixKind X.prog X.w) (r := (ds.zip es).all fun p => PyData.eqv p.1 p.2) ya yb da db (by omega) (fun _ => hits_data I (by show X.A.units + 1 + 60 < cLine; omega) rb ys vs ws ds es va lv lw ra (fun p hp => val_nodup nd2 p hp) hd he sd se) (fin_bl I q (by simp [hl]))
end
end Cv

/-! part B7 -/
set_option maxRecDepth 100000
set_option maxHeartbeats 4000000
namespace Cv
open PySem PySem.Spec PyProof.Rows L2
open PySem.W (Frag)
section
variable {X : Cx}
/-- y = {k: v for ..} -/
theorem ps_setDc {i : Nat} {y : Str} {py : Pos} {kx vx tg iter : Expr} {ifs : List Expr} {scope : Scope} {own : List (Str × Nat)} {pos spos : Pos} {wi : TI} {g : TG} {tt : TT} {tk tv : TE} (hc : X.calm = true) (hN : X.N.Nodup) (hy : X.N[i]? = some y) (hyl : X.env.scope.names.lookup y = some .local)
    (hw : swapsWith (.DictComp kx vx [⟨tg, iter, ifs, 0⟩] scope pos) (some (.Name y py)) spos.line X.env = pure true) (hi : PI X tg iter wi) (ok : BlkOk X.N X.env.scope scope own) (hg : ∀ (s : Shared) (H : Hp) (C : Addr) (cl : List (Str × Addr)) (fp : List Addr), PG (X.blk s H scope (compEnvC scope cl C X.env) fp) tg g)
    (ht : ∀ (s : Shared) (H : Hp) (C : Addr) (cl : List (Str × Addr)) (fp : List Addr), PTs (X.blk s H scope (compEnvC scope cl C X.env) fp) ifs tt) (hk : ∀ (s : Shared) (H : Hp) (C : Addr) (cl : List (Str × Addr)) (fp : List Addr), PE (X.blk s H scope (compEnvC scope cl C X.env) fp) kx tk)
    (he : ∀ (s : Shared) (H : Hp) (C : Addr) (cl : List (Str × Addr)) (fp : List Addr), PE (X.blk s H scope (compEnvC scope cl C X.env) fp) vx tv) (hs : ∀ x, foldedSetIterable iter X.env x = pure x := by intro _; rfl) : PS X (.Assign [.Name y py] (.DictComp kx vx [⟨tg, iter, ifs, 0⟩] scope pos) spos) (tAsg (tDc wi g tt tk tv (own.map (·.2))) (gName i)) := by
  refine ⟨fun pins s σ H D I h => ?_⟩
  rw [exec_Assign_Name_used _ _ _ _ hw]
  refine wpAny_bind (wpAny_standAt (wpAny_bind (show wpAny _ X.A (do let _ ← comprehension (.DictComp kx vx [⟨tg, iter, ifs, 0⟩] scope pos) scope X.env (firstIterPos [⟨tg, iter, ifs, 0⟩] pos) newDict false (eval iter X.env) (some (assign (.Name y py) X.env))) _ _ s from
    wpAny_bind (thn (dc_core (Qf := fun _ s' => SP X pins D .next s') hc hN I hi ok hg ht hk he hs (show tDc wi g tt tk tv (own.map (·.2)) σ H (fun x H1 => gName i x σ H1 D.nx) from h) fun L C s' m H' I' q hn f => ?_) fun _ s' q => wpAny_pure (wpAny_pure q)))))
  obtain ⟨f0, f1, f2, f3, f4, f5⟩ := f
  refine (wpAny_assign_Name (store_ok2 (v := V.ref L) I' hN hy (.inl hyl) rfl (fun s2 I2 ⟨a, sb, ha⟩ => ?_) (.inr hyl)) : wpAny _ _ (assign (.Name y py) X.env (.ref L)) _ _ _)
  have ne : C ≠ a := by
    rcases ha with z | z
    · rw [z]
      exact f1
    · exact fun e => f4 y a z e.symm
  exact ⟨m, hn.sameBut sb ne, fun h3 sb3 => ⟨_, H', I2.turned (t' := s2.toks) (fun b o hb e => (sb3.2 b hb).trans e) f0 f1 f3 f4 f5, q⟩⟩
theorem dsw_true {kx vx : Expr} {gs : List Comprehension} {scope : Scope} {pos py : Pos} {y : Str} {l : Nat} {env : Env} (hk : env.scope.kind = .function) (hy : env.scope.names.lookup y = some .local) (hl : (py.line == pos.line) = true)
    (ha : (scope.names.any fun (n, k) => n == y && (k == .local || k == .cell)) = false) : swapsWith (.DictComp kx vx gs scope pos) (some (.Name y py)) l env = pure true := by
  have k1 : env.kindOf y = some .local := hy
  have k2 : env.blockKind = .function := by unfold Env.blockKind; rw [hk]; rfl
  unfold swapsWith
  simp only [k2, k1, ha, Expr.pos, hl]
  rfl
end
end Cv

/-! part B8 -/
set_option maxRecDepth 100000
set_option maxHeartbeats 4000000
namespace Cv
open PySem PySem.Spec PyProof.Rows L2
open PySem.W (Frag)
/-! ### enumerate(t), t a tuple -/
theorem enum_new1 {v : Value} {o : Obj} {G : Heap → Prop} (B : Begins v o G) : Meets (Builtin.«enumerate.__new__» ⟨[.type "enumerate", v], []⟩) (fun _ R s => G s.heap ∧
      R (.ok (.ret (.ref (s.heap.push o).objs.size))) { s with heap := (s.heap.push o).push { cls := .type "enumerate", data := .fields #[.none, .bool false, .ref s.heap.objs.size, rawInt 0, .none, .none] } }) :=
  .of_wp fun prog w A R s h => by
    obtain ⟨hp, g, d, tk, os⟩ := s
    obtain ⟨h1, h⟩ := h
    have k1 := sub_enumerate
    have k2 : ∀ {A' : Around} {E : Value → Shared → Prop} {Q : Value → Shared → Prop}, Q (.ref hp.objs.size) ⟨hp.push o, g, d, tk, os⟩ → wpAny (model prog w) A' (pyIter v) Q E ⟨hp, g, d, tk, os⟩ := fun q => B.iter prog w _ _ ⟨hp, g, d, tk, os⟩ _ h1 q
    wp_walk using k2
    refine wpAny_stack_any fun st => wpAny_pure ?_
    split
    · rename_i c _ _ _ _ _
      cases (c == Value.type "enumerate") <;> (wp_walk using k2; exact ⟨_, rfl, h⟩)
    · wp_walk using k2
      exact ⟨_, rfl, h⟩
section
variable {prog : Program} {w : World} {A : Around} {E : Value → Shared → Prop} {s : Shared}
theorem enum_call1 {v : Value} {o : Obj} {G : Heap → Prop} {Q : Value → Shared → Prop} (B : Begins v o G) (h1 : G s.heap)
    (h : ∀ h', IsEnum h' (s.heap.objs.size + 1) s.heap.objs.size 0 .none → h'.get? s.heap.objs.size = some o → (∀ b o, s.heap.get? b = some o → h'.get? b = some o) → Q (.ref (s.heap.objs.size + 1)) { s with heap := h' }) : wpAny (model prog w) A (call (.type "enumerate") [v]) Q E s := by
  refine callType_new PySem.F.called_enumerate (by decide) (PySem.F.typeCall_enumerate_1 _) (PySem.F.newCall_enumerate_1 _) (fun obj => PySem.F.args_object_init_2 obj _) PySem.F.entry_enumerate_new (enum_new1 B) ⟨h1, ?_⟩
  have e1 : (s.heap.push o).objs.size = s.heap.objs.size + 1 := Heap.size_push ..
  show _ ∧ _
  rw [e1]
  have at1 : IsEnum ((s.heap.push o).push { cls := .type "enumerate", data := .fields #[.none, .bool false, .ref s.heap.objs.size, rawInt 0, .none, .none] }) (s.heap.objs.size + 1) s.heap.objs.size 0 .none := by
    have q := Heap.get?_push_size (s.heap.push o) (o := { cls := .type "enumerate", data := .fields #[.none, .bool false, .ref s.heap.objs.size, rawInt 0, .none, .none] }) rfl
    rw [e1] at q
    exact q
  exact ⟨⟨_, at1, rfl⟩, h _ at1 (Heap.get?_push_of_some _ (Heap.get?_push_size _ B.free)) fun b o x => Heap.get?_push_of_some _ (Heap.get?_push_of_some _ x)⟩
end
/-- the tuple at a, each item in a new pair with its place -/
def IteT (K : Frag) (a : Addr) (xs : List V) : It :=
  ⟨fun i H => SqT K H a xs ∧ i < xs.length, fun i H v H' => ∃ T x, v = .ref T ∧ H T = none ∧ H' = upd H T (.tup [.int (i : Nat), x]) ∧ xs[i]? = some x, fun i H => SqT K H a xs ∧ i = xs.length⟩
theorem turn_enumT {P : Program} {w : World} {K : Frag} {elts : List Expr} {kk : Nat} {tpos : Pos} {a e it : Addr} {xs : List V} (n1 : e ≠ it) (n2 : a ≠ it) (n3 : e ≠ a) :
    Turn P w K (.Tuple elts kk tpos) (IteT K a xs) [e, it] e (fun i h => (∃ old, IsEnum h e it ((i : Nat) : Int) old) ∧ h.IsTupleIter it a i) where
  mem := by simp
  obj := fun i h st b hb => by
    obtain ⟨⟨old, he⟩, ⟨o, ho, hc, hd⟩⟩ := st
    rcases List.mem_cons.mp hb with z | z
    · rw [z]; exact ⟨_, he, fun v q => nomatch q⟩
    · rw [List.mem_singleton.mp z]; exact ⟨o, ho, fun v q => by rw [hd] at q; cases q⟩
  keep := fun i h h' st k => let ⟨⟨old, he⟩, hi⟩ := st; ⟨⟨old, k e (by simp) _ he⟩, hi.at fun o q => k it (by simp) o q⟩
  item := by
    intro X hP hw hK hc i pins s σ H E I hf st hg
    subst hP hw hK
    obtain ⟨⟨old, he⟩, hit⟩ := st
    obtain ⟨hq, hlt⟩ := hg
    obtain ⟨its, rv, p, hz⟩ := I.tuple hq
    have hx : xs[i]? = some xs[i] := List.getElem?_eq_getElem hlt
    obtain ⟨u, hu, ru⟩ := rv.get hx
    have hel : e < s.heap.objs.size := Heap.lt_size he
    have hil : it < s.heap.objs.size := by obtain ⟨_, q, _⟩ := hit; exact Heap.lt_size q
    have hl : its.toArray.size = xs.length := by rw [List.size_toArray]; exact rv.length.symm
    have nm : e ∉ [it, a] := fun m => by
      rcases List.mem_cons.mp m with z | z
      · exact n1 z
      · exact n3 (List.mem_singleton.mp z)
    refine wpAny_pyNext_enum_itemD (Draws.tuple (A := X.A.in1) (I.ok.hd hc) it a n2 its.toArray) he ⟨hit, p⟩ (by rw [hl]; exact hlt) n1 nm fun u' h' tk hu' ho st' hT hsz hk => ?_
    have eu : u' = u := by
      have h2 : its.toArray[i]? = some u := by simpa using hu
      exact Option.some.inj (hu'.symm.trans h2)
    subst eu
    refine ⟨_, rfl, wpAny_letOwnedTupleGo_enum (s := { s with heap := h', toks := tk + 1 }) ho fun h'' he' sb => ?_⟩
    have hT2 : h''.get? s.heap.objs.size = some { cls := .type "tuple", data := .seq #[.int i tk, u'] } := (sb.2 _ (Nat.ne_of_gt hel)).trans hT
    have new : ObjOk X.prog X.w (upd H s.heap.objs.size (.tup [.int (i : Nat), xs[i]])) h'' s.heap.objs.size (.tup [.int (i : Nat), xs[i]]) := ⟨by show 2 ≤ sizeLine; decide, [.int i tk, u'], .cons ⟨_, rfl⟩ (.cons ru .nil), ⟨_, hT2, rfl, _, rfl⟩⟩
    have I1 : Inv X pins σ (upd H s.heap.objs.size (.tup [.int (i : Nat), xs[i]])) { s with heap := h'', toks := tk + 1 } :=
      I.turnedNew (ch := [e, it]) (fun b ob hb q => (sb.2 b (fun z => hb (by simp [z]))).trans (hk b ob (fun z => hb (by simp [z])) (fun z => hb (by simp [z])) q)) hf (Nat.le_refl _) new
    refine ⟨.ref s.heap.objs.size, _, I1, rfl, ⟨_, xs[i], rfl, I.hok.fresh (Nat.le_refl _), rfl, hx⟩, ⟨⟨u', ?_⟩, st'.1.at fun o q => (sb.2 it (Ne.symm n1)).trans q⟩, fun b hb => ?_⟩
    · have e1 : ((i + 1 : Nat) : Int) = (i : Int) + 1 := by omega
      rw [e1]; exact he'
    · have lb : b < s.heap.objs.size := by
        rcases List.mem_cons.mp hb with z | z
        · rw [z]; exact hel
        · rw [List.mem_singleton.mp z]; exact hil
      rw [upd_ne (Nat.ne_of_lt lb)]
      exact (hf b hb).1
  done := by
    intro X hP hw hK hc i pins s σ H E I hf st hg
    subst hP hw hK
    obtain ⟨⟨old, he⟩, hit⟩ := st
    obtain ⟨hq, rfl⟩ := hg
    obtain ⟨its, rv, p, hz⟩ := I.tuple hq
    have hl : its.toArray.size = xs.length := by rw [List.size_toArray]; exact rv.length.symm
    obtain ⟨f0, f1, f2, f3, f4, f5⟩ := hf it (by simp)
    refine wpAny_pyNext_enum_endD (Draws.tuple (A := X.A.in1) (I.ok.hd hc) it a n2 its.toArray) he (by rw [hl]; exact ⟨hit, p⟩) fun h' eb => ⟨rfl, I.turned (t' := s.toks) (fun b o hb q => eb b o hb q) f0 f1 f3 f4 f5⟩
  self := fun A i s Q E st h => let ⟨⟨_, he⟩, _⟩ := st; wpAny_pyIter_enum he h
def iEnumT (K : Frag) (ta : TA) : TI := fun σ H R => ta σ H fun vs H1 => ∃ a xs, vs = [.ref a] ∧ SqT K H1 a xs ∧ R (IteT K a xs) H1
theorem pi_enumT {X : Cx} {e : Expr} {ta : TA} {p pos tpos : Pos} {elts : List Expr} {kk : Nat} (hg : Gl X "enumerate") (hm : X.mg "enumerate" = none) (ha : PA X [e] ta) (hs : starEach [e] X.env = [(false, eval e X.env)] := by rfl) :
    PI X (.Tuple elts kk tpos) (.Call (.Name "enumerate" p) [e] [] pos) (iEnumT X.K ta) := by
  refine ⟨fun pins s σ H R I h => ?_⟩
  refine Call_ (ld_blt I hg hm boot_enumerate (PyProof.Rows.callWith_type1 (thn (ha.run pos pins s σ H _ I h) fun us s1 ⟨vs, H1, I1, r1, q1⟩ => ?_) hs rfl))
  obtain ⟨a, xs, rfl, hq, q⟩ := q1
  rw [Vals.ref1 r1]
  obtain ⟨its, rv, p', hz⟩ := I1.tuple hq
  have la : a < s1.heap.objs.size := by obtain ⟨o, e, _⟩ := p'; exact Heap.lt_size e
  refine enum_call1 (begins_tuple a its.toArray) p' fun h' he hit hk => wpAny_pyIter_enum he ?_
  have I2 : Inv X pins σ H1 { s1 with heap := h' } := I1.kept (t' := s1.toks) hk
  refine ⟨s1.heap.objs.size + 1, [s1.heap.objs.size + 1, s1.heap.objs.size], _, _, H1, rfl, I2, turn_enumT (Nat.succ_ne_self _) (Nat.ne_of_lt la) (Nat.ne_of_gt (Nat.lt_succ_of_lt la)), ⟨⟨.none, he⟩, ⟨_, hit, rfl, rfl⟩⟩, fun b hb => ?_, q⟩
  have le : s1.heap.objs.size ≤ b := by
    rcases List.mem_cons.mp hb with z | z
    · rw [z]; exact Nat.le_add_right _ _
    · rw [List.mem_singleton.mp z]; exact Nat.le_refl _
  exact I1.fpOk le (I1.hok.fresh le)
theorem walk_enumT {K : Frag} {a : Addr} {xs : List V} : Walk (IteT K a xs) xs.length (fun H => SqT K H a xs) (fun i H v H' => ∃ T x, v = .ref T ∧ H T = none ∧ H' = upd H T (.tup [.int (i : Nat), x]) ∧ xs[i]? = some x) :=
  ⟨fun i H hi q => ⟨q, hi⟩, fun H q => ⟨q, rfl⟩, fun i H x H' hi q y => y⟩
end Cv

/-! part B9 -/
set_option maxRecDepth 100000
set_option maxHeartbeats 4000000
namespace Cv
open PySem PySem.Spec PyProof.Rows L2
open PySem.W (Frag)
/-! ### zip(t, l), t a tuple, l a list -/
def ItzM (K : Frag) (a b : Addr) (xs ys : List V) : It :=
  ⟨fun i H => SqT K H a xs ∧ SqL K H b ys ∧ i < xs.length ∧ i < ys.length, fun i H v H' => ∃ T x y, v = .ref T ∧ H T = none ∧ H' = upd H T (.tup [x, y]) ∧ xs[i]? = some x ∧ ys[i]? = some y,
    fun i H => SqT K H a xs ∧ SqL K H b ys ∧ i ≤ xs.length ∧ i ≤ ys.length ∧ (i = xs.length ∨ i = ys.length)⟩
theorem turn_zipM {P : Program} {w : World} {K : Frag} {elts : List Expr} {kk : Nat} {tpos : Pos} {a b z TI TO i1 i2 : Addr} {xs ys : List V} (S : ZipSep2 z TI TO i1 i2 [i1, a] [i2, b]) (m1 : a ≠ i1) (m2 : b ≠ i2) :
    Turn P w K (.Tuple elts kk tpos) (ItzM K a b xs ys) [z, TI, TO, i1, i2] z (fun i h => IsZip h z TI TO .none ∧ IsTupOf2 h TI (.ref i1) (.ref i2) ∧ (∃ x y, IsTupOf2 h TO x y) ∧ h.IsTupleIter i1 a i ∧ h.IsListIter i2 b i) where
  mem := by simp
  obj := fun i h st c hc => by
    obtain ⟨hz, hTI, ⟨x, y, hTO⟩, ⟨o1, e1, _, d1⟩, ⟨o2, e2, _, d2⟩⟩ := st
    have e' : c = z ∨ c = TI ∨ c = TO ∨ c = i1 ∨ c = i2 := by simpa using hc
    rcases e' with q | q | q | q | q
    · rw [q]; exact ⟨_, hz, fun v q => nomatch q⟩
    · rw [q]; exact ⟨_, hTI, fun v q => nomatch q⟩
    · rw [q]; exact ⟨_, hTO, fun v q => nomatch q⟩
    · rw [q]; exact ⟨o1, e1, fun v q => by rw [d1] at q; cases q⟩
    · rw [q]; exact ⟨o2, e2, fun v q => by rw [d2] at q; cases q⟩
  keep := fun i h h' st k => by
    obtain ⟨hz, hTI, ⟨x, y, hTO⟩, h1, h2⟩ := st
    exact ⟨k z (by simp) _ hz, k TI (by simp) _ hTI, ⟨x, y, k TO (by simp) _ hTO⟩, h1.at fun o q => k i1 (by simp) o q, h2.at fun o q => k i2 (by simp) o q⟩
  item := by
    intro X hP hw hK hc i pins s σ H E I hf st hg
    subst hP hw hK
    obtain ⟨hz, hTI, ⟨x0, y0, hTO⟩, h1, h2⟩ := st
    obtain ⟨hqx, hqy, lx, ly⟩ := hg
    obtain ⟨its, rv, p, _⟩ := I.tuple hqx
    obtain ⟨its2, rv2, p2, _⟩ := I.list hqy
    have hx : xs[i]? = some xs[i] := List.getElem?_eq_getElem lx
    have hy : ys[i]? = some ys[i] := List.getElem?_eq_getElem ly
    obtain ⟨u, hu, ru⟩ := rv.get hx
    obtain ⟨u2, hu2, ru2⟩ := rv2.get hy
    have k1 : its.toArray.size = xs.length := by rw [List.size_toArray]; exact rv.length.symm
    have k2 : its2.toArray.size = ys.length := by rw [List.size_toArray]; exact rv2.length.symm
    have hzl : z < s.heap.objs.size := Heap.lt_size hz
    refine wpAny_pyNext_zipD2_item S (Draws.tuple (A := X.A.in1) (I.ok.hd hc) i1 a m1 its.toArray) (Draws.list (A := X.A.in1) (I.ok.hd hc) i2 b m2 its2.toArray) hz hTI hTO ⟨h1, p⟩ ⟨h2, p2.isList⟩ (by rw [k1]; exact lx) (by rw [k2]; exact ly) fun v v2 h' tk hv hv2 z' TO' st1 st2 hT hsz hk => ?_
    have ev : v = u := by
      have q : its.toArray[i]? = some u := by simpa using hu
      exact Option.some.inj (hv.symm.trans q)
    have ev2 : v2 = u2 := by
      have q : its2.toArray[i]? = some u2 := by simpa using hu2
      exact Option.some.inj (hv2.symm.trans q)
    subst ev ev2
    refine ⟨_, rfl, wpAny_letOwnedTupleGo_zip (s := { s with heap := h', toks := tk }) z' fun h'' z'' sb => ?_⟩
    have hT2 : h''.get? s.heap.objs.size = some { cls := .type "tuple", data := .seq #[v, v2] } := (sb.2 _ (Nat.ne_of_gt hzl)).trans hT
    have new : ObjOk X.prog X.w (upd H s.heap.objs.size (.tup [xs[i], ys[i]])) h'' s.heap.objs.size (.tup [xs[i], ys[i]]) := ⟨by show 2 ≤ sizeLine; decide, [v, v2], .cons ru (.cons ru2 .nil), ⟨_, hT2, rfl, _, rfl⟩⟩
    have I1 : Inv X pins σ (upd H s.heap.objs.size (.tup [xs[i], ys[i]])) { s with heap := h'', toks := tk } :=
      I.turnedNew (ch := [z, TI, TO, i1, i2]) (fun c o hb q => (sb.2 c (fun q' => hb (by simp [q']))).trans (hk c o (fun q' => hb (by simp [q'])) (fun q' => hb (by simp [q'])) (fun q' => hb (by simp [q'])) (fun q' => hb (by simp [q'])) q)) hf (Nat.le_refl _) new
    refine ⟨.ref s.heap.objs.size, _, I1, rfl, ⟨_, xs[i], ys[i], rfl, I.hok.fresh (Nat.le_refl _), rfl, hx, hy⟩, ⟨z'', ?_, ⟨v, v2, ?_⟩, ?_, ?_⟩, fun c hcm => ?_⟩
    · exact (sb.2 _ S.TIz).trans (hk _ _ S.TIz S.TITO S.TIi1 S.TIi2 hTI)
    · exact (sb.2 _ S.TOz).trans TO'
    · exact st1.1.at fun o q => (sb.2 _ S.zi1.symm).trans q
    · exact st2.1.at fun o q => (sb.2 _ S.zi2.symm).trans q
    · have hlt : c < s.heap.objs.size := by
        have e' : c = z ∨ c = TI ∨ c = TO ∨ c = i1 ∨ c = i2 := by simpa using hcm
        rcases e' with q | q | q | q | q
        · rw [q]; exact hzl
        · rw [q]; exact Heap.lt_size hTI
        · rw [q]; exact Heap.lt_size hTO
        · rw [q]; obtain ⟨_, e1, _⟩ := h1; exact Heap.lt_size e1
        · rw [q]; obtain ⟨_, e2, _⟩ := h2; exact Heap.lt_size e2
      rw [upd_ne (Nat.ne_of_lt hlt)]
      exact (hf c hcm).1
  done := by
    intro X hP hw hK hc i pins s σ H E I hf st hg
    subst hP hw hK
    obtain ⟨hz, hTI, ⟨x0, y0, hTO⟩, h1, h2⟩ := st
    obtain ⟨hqx, hqy, lx, ly, le⟩ := hg
    obtain ⟨its, rv, p, _⟩ := I.tuple hqx
    obtain ⟨its2, rv2, p2, _⟩ := I.list hqy
    have k1 : its.toArray.size = xs.length := by rw [List.size_toArray]; exact rv.length.symm
    have k2 : its2.toArray.size = ys.length := by rw [List.size_toArray]; exact rv2.length.symm
    refine wpAny_pyNext_zipD2_end S (Draws.tuple (A := X.A.in1) (I.ok.hd hc) i1 a m1 its.toArray) (Draws.list (A := X.A.in1) (I.ok.hd hc) i2 b m2 its2.toArray) hz hTI hTO ⟨h1, p⟩ ⟨h2, p2.isList⟩ (by rw [k1]; exact lx) (by rw [k2]; exact ly) (by rw [k1, k2]; exact le) fun h' tk hk => ⟨rfl, ?_⟩
    exact I.turnedL (ch := [z, TI, TO, i1, i2]) (fun c o hb q => hk c o (fun q' => hb (by simp [q'])) (fun q' => hb (by simp [q'])) (fun q' => hb (by simp [q'])) (fun q' => hb (by simp [q'])) q) hf
  self := fun A i s Q E st h => wpAny_pyIter_zip st.1 h
def iZipM (K : Frag) (ta : TA) : TI := fun σ H R => ta σ H fun vs H1 => ∃ a b xs ys, vs = [.ref a, .ref b] ∧ SqT K H1 a xs ∧ SqL K H1 b ys ∧ R (ItzM K a b xs ys) H1
theorem pi_zipM {X : Cx} {e e2 : Expr} {ta : TA} {p pos tpos : Pos} {elts : List Expr} {kk : Nat} (hg : Gl X "zip") (hm : X.mg "zip" = none) (ha : PA X [e, e2] ta)
    (hs : starEach [e, e2] X.env = (false, eval e X.env) :: starEach [e2] X.env := by rfl) (hpl : (backTo pos (starEach [e2] X.env)).any (·.1) = false := by rfl) : PI X (.Tuple elts kk tpos) (.Call (.Name "zip" p) [e, e2] [] pos) (iZipM X.K ta) := by
  refine ⟨fun pins s σ H R I h => ?_⟩
  refine Call_ (ld_blt I hg hm PyProof.Rows.boot_zip (PyProof.Rows.callWith_type1 (thn (ha.run pos pins s σ H _ I h) fun us s1 ⟨vs, H1, I1, r1, q1⟩ => ?_) hs hpl))
  obtain ⟨a, b, xs, ys, rfl, hqx, hqy, q⟩ := q1
  cases r1 with
  | cons r rr =>
    cases rr with
    | cons r' rr =>
      cases rr
      cases r
      cases r'
      obtain ⟨its, rv, p1, _⟩ := I1.tuple hqx
      obtain ⟨its2, rv2, p2, _⟩ := I1.list hqy
      have la : a < s1.heap.objs.size := by obtain ⟨o, e, _⟩ := p1; exact Heap.lt_size e
      have lb : b < s1.heap.objs.size := by obtain ⟨o, e, _⟩ := p2.isList; exact Heap.lt_size e
      have fresh5 : ∀ c, c ∈ [s1.heap.objs.size + 4, s1.heap.objs.size + 2, s1.heap.objs.size + 3, s1.heap.objs.size, s1.heap.objs.size + 1] → FpOk X pins H1 c := fun c hcm => by
        have hle : s1.heap.objs.size ≤ c := by
          simp only [List.mem_cons, List.not_mem_nil, or_false] at hcm
          rcases hcm with z | z | z | z | z
          · rw [z]; exact Nat.le_add_right _ _
          · rw [z]; exact Nat.le_add_right _ _
          · rw [z]; exact Nat.le_add_right _ _
          · rw [z]; exact Nat.le_refl _
          · rw [z]; exact Nat.le_add_right _ _
        exact I1.fpOk hle (I1.hok.fresh hle)
      have S := zip_sep2 (N := s1.heap.objs.size) (fp1 := [a]) (fp2 := [b]) (fun c hc => by rw [List.mem_singleton.mp hc]; exact la) (fun c hc => by rw [List.mem_singleton.mp hc]; exact lb)
      refine zip_begins2 (begins_tuple a its.toArray) (begins_list b its2.toArray) p1 p2.isList fun h' hz hTI hTO h1 h2 hsz hk => ?_
      have I2 : Inv X pins σ H1 { s1 with heap := h' } := I1.kept (t' := s1.toks) hk
      refine wpAny_pyIter_zip hz ?_
      have T : Turn X.prog X.w X.K (.Tuple elts kk tpos) (ItzM X.K a b xs ys) [s1.heap.objs.size + 4, s1.heap.objs.size + 2, s1.heap.objs.size + 3, s1.heap.objs.size, s1.heap.objs.size + 1] (s1.heap.objs.size + 4) _ := turn_zipM S (Nat.ne_of_lt la) (Nat.ne_of_lt (Nat.lt_succ_of_lt lb))
      refine ⟨s1.heap.objs.size + 4, _, _, _, H1, rfl, I2, T, ?_, fresh5, q⟩
      have t1 : h'.IsTupleIter s1.heap.objs.size a 0 := ⟨_, h1, rfl, rfl⟩
      have t2 : h'.IsListIter (s1.heap.objs.size + 1) b 0 := ⟨_, h2, rfl, rfl⟩
      exact ⟨hz, hTI, ⟨.none, .none, hTO⟩, t1, t2⟩
theorem walk_zipM {K : Frag} {a b : Addr} {xs ys : List V} {n : Nat} (hx : xs.length = n) (hy : ys.length = n) : Walk (ItzM K a b xs ys) n (fun H => SqT K H a xs ∧ SqL K H b ys) (fun i H v H' => ∃ T x y, v = .ref T ∧ H T = none ∧ H' = upd H T (.tup [x, y]) ∧ xs[i]? = some x ∧ ys[i]? = some y) :=
  ⟨fun i H hi q => ⟨q.1, q.2, by omega, by omega⟩, fun H q => ⟨q.1, q.2, by omega, by omega, .inl hx.symm⟩, fun i H x H' hi q y => y⟩
end Cv

/-! part B10 -/
set_option maxRecDepth 100000
set_option maxHeartbeats 4000000
namespace Cv
open PySem PySem.Spec PyProof.Rows L2
open PySem.W (Frag)
open PySem.Froz (SD sObj TxOk addTx tailTx add_ok add_x)
/-! ### sets of texts whose places are known, and sorted(set(xs)) -/
/-- the set at a holds the texts l, and it can be walked -/
structure SX (P : Program) (w : World) (h : Heap) (a : Addr) (l : List Str) : Prop where
  ex : ∃ D : SD, h.get? a = some (sObj "set" D) ∧ TxOk P w D l ∧ Ris D.2.2.place.toList ∧ (w.params.followText "set-order" = true ∨ D.2.2.led = true)
theorem SX.keep {P : Program} {w : World} {h h' : Heap} {a : Addr} {l : List Str} (S : SX P w h a l) (k : ∀ o, h.get? a = some o → h'.get? a = some o) : SX P w h' a l := by
  obtain ⟨D, h1, r⟩ := S.ex
  exact ⟨D, k _ h1, r⟩
theorem addTx_walk {h : Int} {v : Value} {D : SD} (r : Ris D.2.2.place.toList) : Ris (addTx h v D).2.2.place.toList ∧ (addTx h v D).2.2.led = D.2.2.led := by
  have r1 := layNew_ris D.2.2 D.1 h v r
  have l1 := layNew_led D.2.2 D.1 h v
  unfold addTx
  generalize layNew D.2.2 D.1 h v = Z at r1 l1 ⊢
  obtain ⟨es1, t1, wd, gv⟩ := Z
  dsimp only at r1 l1 ⊢
  have r2 : Ris (if t1.plain = true then { t1 with plain := false } else t1).place.toList ∧ (if t1.plain = true then { t1 with plain := false } else t1).led = D.2.2.led := by
    by_cases c : t1.plain = true
    · rw [if_pos c]; exact ⟨r1, l1⟩
    · rw [if_neg c]; exact ⟨r1, l1⟩
  generalize (if t1.plain = true then { t1 with plain := false } else t1) = t2 at r2 ⊢
  unfold tailTx
  by_cases c : (!wd && t2.tooFull) = true
  · rw [if_pos c]
    exact ⟨relayAll_ris _ _ _, (relayAll_led _ _ _).trans r2.2⟩
  · rw [if_neg c]
    exact r2
section
variable {prog : Program} {w : World} {A : Around} {E : Value → Shared → Prop} {s : Shared}
theorem sx_new {a : Addr} {l : List Str} {k : Str} {u : Tok} {Q : Bool → Shared → Prop} (S : SX prog w s.heap a l) (hk : k ∉ l) (hb : l.length + 1 < scanBound)
    (q : ∀ h', Heap.SameBut a s.heap h' → SX prog w h' a (k :: l) → Q true { s with heap := h' }) : wpAny (model prog w) A (setAddHashed a (.str k u) (hashStr w k)) Q E s := by
  obtain ⟨D, hg, F, r, hl⟩ := S.ex
  obtain ⟨r2, l2⟩ := addTx_walk (h := hashStr w k) (v := .str k u) r
  refine add_x hg F hk hb (q _ (Heap.SameBut.update _ _ _) ⟨_, PySem.Froz.get_upd _ hg rfl, add_ok u F, r2, ?_⟩)
  rcases hl with hl | hl
  · exact .inl hl
  · exact .inr (l2.trans hl)
theorem sx_old {a : Addr} {l : List Str} {k : Str} {u : Tok} {Q : Bool → Shared → Prop} (S : SX prog w s.heap a l) (hk : k ∈ l) (hb : l.length < scanBound) (q : Q false s) : wpAny (model prog w) A (setAddHashed a (.str k u) (hashStr w k)) Q E s := by
  obtain ⟨⟨es, ep, t⟩, hg, F, r, hl⟩ := S.ex
  have el : ElemsOf (strKind prog w) es.toList := F.el
  have sz : es.size = l.length := F.sz
  have bd : es.size < scanBound := by rw [sz]; exact hb
  have ft : t.fits es.size = true := F.fit
  have dt : (sObj "set" (es, ep, t)).data = .set es ep t := rfl
  have ik : (strKind prog w).is k (.str k u) = true := PySem.Froz.is_str k u
  obtain ⟨j, hj⟩ : ∃ j, es.toList.findIdx? (fun e => (strKind prog w).is k e.2) = some j := by
    obtain ⟨e, he, q⟩ := (F.mem k).mp hk
    cases c : es.toList.findIdx? (fun e => (strKind prog w).is k e.2) with
    | some j => exact ⟨j, rfl⟩
    | none =>
      have := List.findIdx?_eq_none_iff.mp c e he
      rw [q] at this
      cases this
  unfold setAddHashed setAddHashedIn
  refine wpAny_holding (wpAny_bind (wpAny_setState_of hg dt ft ?_))
  dsimp only
  rw [byScan_of rfl bd el, if_pos rfl]
  unfold setAddByScan
  refine wpAny_bind (wpAny_bind (wpAny_rule (wpAny_bind (wpAny_setScan_of (knd := strKind prog w) (k := k) ik hg dt ft el ?_))))
  rw [hj]
  exact wpAny_pure (wpAny_pure q)
/-- the loop that puts one text after the other into the set -/
theorem sx_many {R : Result → Shared → Prop} {I : Addr} {fp wr : List Addr} {G : Array GenState → Array GenState → Prop} {Pv : Nat → Value → Prop} {St : Nat → Shared → Prop} {xs : List Str} (W : WalksS prog w A.in1 I fp wr G xs.length Pv St) {S : Addr} (hSf : S ∉ fp)
    (hv : ∀ i v, Pv i v → ∃ x t, xs[i]? = some x ∧ v = .str x t) (hb : xs.length + 1 < scanBound) : ∀ (k i : Nat) (s : Shared) (l : List Str), i + k = xs.length → St i s → SX prog w s.heap S l → l.Nodup → (∀ y, y ∈ l ↔ y ∈ xs.take i) → l.length ≤ i →
      (∀ s' l', Moved (S :: wr) G s s' → SX prog w s'.heap S l' → l'.Nodup → (∀ y, y ∈ l' ↔ y ∈ xs) → l'.length ≤ xs.length → R (.ok (.ret .none)) s') → codeAny (model prog w) A (.builtin "set.update.loop" ⟨[.ref S, .ref I], []⟩) R s := by
  have out : S ∉ wr := fun m => hSf (W.sub _ m)
  have wide : ∀ b ∈ wr, b ∈ S :: wr := fun b m => List.mem_cons_of_mem _ m
  intro k
  induction k with
  | zero =>
    intro i s l hi st hS nd hm ll fin
    have e : i = xs.length := hi
    subst e
    refine codeAny_builtin PyProof.Rows.F.entry_set_update_loop ?_
    rw [Around.under_plainId PyProof.Rows.F.plain_set_update_loop _]
    refine wpAny_bind (m := pyNext (.ref I)) (W.done s _ _ st fun s' m => ?_)
    rw [List.take_length] at hm
    exact wpAny_pure (fin s' l (m.mono wide) (hS.keep fun o e => m.heap S o out e) nd hm ll)
  | succ k ih =>
    intro i s l hi st hS nd hm ll fin
    refine codeAny_builtin PyProof.Rows.F.entry_set_update_loop ?_
    rw [Around.under_plainId PyProof.Rows.F.plain_set_update_loop _]
    refine wpAny_bind (m := pyNext (.ref I)) (W.item i s _ _ (by omega) st fun v s' p st' m => ?_)
    obtain ⟨x, t, hx, rfl⟩ := hv i v p
    have hS' : SX prog w s'.heap S l := hS.keep fun o e => m.heap S o out e
    have e1 : xs.take (i + 1) = xs.take i ++ [x] := by rw [List.take_add_one, hx]; rfl
    refine wpAny_bind (m := holding [Value.str x t] (setAdd S (.str x t))) (wpAny_holding (wpAny_holding (wpAny_bind ((strKind prog w).pyHash (k := x) (strKind_is _ _ _ _) ?_))))
    have next : ∀ (h' : Heap) (l' : List Str), Heap.SameBut S s'.heap h' → SX prog w h' S l' → l'.Nodup → (∀ y, y ∈ l' ↔ y ∈ xs.take (i + 1)) → l'.length ≤ i + 1 →
        codeAny (model prog w) A (.builtin "set.update.loop" ⟨[.ref S, .ref I], []⟩) R { s' with heap := h', toks := s'.toks + 1 } := fun h' l' sb hS2 nd' hm' ll' => by
      refine ih (i + 1) _ l' (by omega) (W.frame _ s' _ _ st' (Nat.le_succ _) fun b m2 o e => (sb.2 b fun z => hSf (z ▸ m2)).trans e) hS2 nd' hm' ll' fun s2 l2 m2 hS4 n4 h4 l4 => ?_
      exact fin s2 l2 (Moved.trans W.gtrans ((m.mono wide).then_heap (Nat.le_succ _) fun b o z e => (sb.2 b fun y => z (y ▸ List.mem_cons_self)).trans e) m2) hS4 n4 h4 l4
    by_cases c : x ∈ l
    · refine sx_old (s := { s' with toks := s'.toks + 1 }) hS' c (by omega) ?_
      refine wpAny_pure ⟨plainId_quiet PyProof.Rows.F.plain_set_update_loop _, next s'.heap l (Heap.SameBut.refl _ _) hS' nd (fun y => ?_) (by omega)⟩
      rw [e1, List.mem_append, hm y]
      exact ⟨.inl, fun z => z.elim id fun z => by rw [List.mem_singleton.mp z]; exact (hm x).mp c⟩
    · refine sx_new (s := { s' with toks := s'.toks + 1 }) hS' c (by omega) fun h' sb hS2 => ?_
      refine wpAny_pure ⟨plainId_quiet PyProof.Rows.F.plain_set_update_loop _, next h' (x :: l) sb hS2 (List.nodup_cons.mpr ⟨c, nd⟩) (fun y => ?_) (by simpa using ll)⟩
      rw [e1, List.mem_append, List.mem_cons, hm y, List.mem_singleton]
      exact Or.comm
abbrev setOn (w : World) : Obj := { cls := .type "set", dict := none, data := .set #[] 0 (.fresh 0 0 (!w.params.followText "set-order")) }
theorem sx_start {h : Heap} {a : Addr} (e : h.get? a = some (setOn w)) : SX prog w h a [] := by
  refine ⟨(#[], 0, .fresh 0 0 (!w.params.followText "set-order")), e, .nil rfl, List.Pairwise.nil, ?_⟩
  cases w.params.followText "set-order"
  · exact .inr rfl
  · exact .inl rfl
theorem sx_open {v : Value} {Q : Value → Shared → Prop} (h : wpAny (model prog w) A.in1.in1 (Builtin.«set.__init__» ⟨[.ref s.heap.objs.size, v], []⟩)
      (fun fin s' => match fin with | .done f => wants (fun r s₂ => r = .none ∧ Q (.ref s.heap.objs.size) s₂) E (.ok f) s' | .again c' => c'.quiet = true ∧ codeAny (model prog w) A.in1 c' (wants (fun r s₂ => r = .none ∧ Q (.ref s.heap.objs.size) s₂) E) s')
      (fun e s' => wants (fun r s₂ => r = .none ∧ Q (.ref s.heap.objs.size) s₂) E (.error e) s') { s with heap := s.heap.push (setOn w) }) : wpAny (model prog w) A (call (.type "set") [v]) Q E s := by
  obtain ⟨c, tl, hmro⟩ := PySem.F.called_set.mro
  have k1 := PySem.F.called_set.made
  have k2 := PySem.F.called_set.sub
  refine wpAny_call (codeAny_of_tree (show wpAny _ _ (callAny (.type "set") _) _ _ _ from wpAny_pure ⟨Code.quiet_builtin _ (by decide +kernel), codeAny_builtin PySem.F.entry_type_call ?_⟩))
  rw [Around.under_plain (weight_type_call_type "set" [v] []) rfl]
  have k3 := PySem.F.called_set.notType
  have k4 := PySem.F.called_set.canCreate
  have k5 := PySem.F.typeCall_set_1 v
  repeat (any_goals (first | assumption | wp_step))
  refine codeAny_mono (code_set_led1 v (E := E) (Q₁ := fun obj s₁ => obj = .ref s.heap.objs.size ∧ s₁ = { s with heap := s.heap.push (setOn w) }) ⟨rfl, rfl⟩) fun r s₁ hr => ?_
  match r, hr with
  | .error e, hr => exact hr
  | .ok (.ret obj), hr =>
    obtain ⟨rfl, rfl⟩ := hr
    have hT : Shared.TypeIs { s with heap := s.heap.push (setOn w) } (.ref s.heap.objs.size) "set" := ⟨_, Heap.get?_push_size _ rfl, rfl⟩
    have k6 := PySem.F.called_set.init.lookup
    have k7 := PySem.F.called_set.init.bind (.ref s.heap.objs.size)
    repeat (any_goals (first | assumption | wp_step))
    refine codeAny_mono (codeAny_call_builtin (R := wants (fun r s₂ => r = .none ∧ Q (.ref s.heap.objs.size) s₂) E) PySem.F.called_set.init.plain PySem.F.entry_set_init (check_set_init_1 hT h)) fun r₂ s₂ hr₂ => ?_
    match r₂, hr₂ with
    | .error e, hr₂ => exact hr₂
    | .ok (.ret r), hr₂ =>
      obtain ⟨rfl, q⟩ := hr₂
      repeat (any_goals (first | assumption | wp_step))
/-- set(t), t a tuple or a list of texts -/
theorem sx_of {l : Addr} {items : Array Value} {xs : List Str} {Q : Value → Shared → Prop} (hh : A.handled = none) (hl : s.heap.IsTuple l items ∨ s.heap.IsList l items) (hi : StrsAre items.toList xs) (hb : xs.length + 1 < scanBound)
    (h : ∀ (h' : Heap) (tk : Nat) (ys : List Str), SX prog w h' s.heap.objs.size ys → ys.Nodup → (∀ y, y ∈ ys ↔ y ∈ xs) → ys.length ≤ xs.length → (∀ b o, s.heap.get? b = some o → h'.get? b = some o) → Q (.ref s.heap.objs.size) { s with heap := h', toks := tk }) : wpAny (model prog w) A (call (.type "set") [.ref l]) Q E s := by
  refine sx_open ?_
  have hsz : items.size = xs.length := by rw [← StrsAre.len_eq hi, Array.length_toList]
  have e1 : (s.heap.push (setOn w)).objs.size = s.heap.objs.size + 1 := Heap.size_push ..
  have hT : Shared.TypeIs { s with heap := s.heap.push (setOn w) } (.ref s.heap.objs.size) "set" := ⟨_, Heap.get?_push_size _ rfl, rfl⟩
  have hS : (s.heap.push (setOn w)).get? s.heap.objs.size = some (setOn w) := Heap.get?_push_size _ rfl
  have hh3 : A.in1.in1.in1.handled = none := by simp [hh]
  have at_ : ∀ (i : Nat) (v : Value), items[i]? = some v → ∃ x t, xs[i]? = some x ∧ v = Value.str x t := fun i v p => by
    have hil : i < xs.length := by rw [← hsz]; exact (Array.getElem?_eq_some_iff.mp p).1
    obtain ⟨t, e⟩ := SS.strs_at hi i v (by rw [Array.getElem?_toList]; exact p)
    refine ⟨xs[i], t, List.getElem?_eq_getElem hil, ?_⟩
    rw [e, List.getD_eq_getElem?_getD, List.getElem?_eq_getElem hil]
    rfl
  rcases hl with hl | hl
  · obtain ⟨⟨oc, od, oda, osl⟩, hol, hcl, nl, hdl⟩ := hl
    simp only at hcl hdl
    subst hcl hdl
    have ltl : l < s.heap.objs.size := Heap.lt_size hol
    have hol' : (s.heap.push (setOn w)).get? l = some { cls := .type "tuple", dict := od, data := .seq items nl, slots := osl } := Heap.get?_push_of_some _ hol
    have hl1 : (s.heap.push (setOn w)).IsTuple l items := ⟨_, hol', rfl, nl, rfl⟩
    have k8 := PySem.F.sub_tuple_set
    have k9 := PySem.F.sub_tuple_frozenset
    have k10 : (Value.type "tuple" == Value.type "dict") = false := by decide
    unfold Builtin.«set.__init__» noKeywords Builtin.Frozenset.updateFrom
    generalize hPI : pyIter = PI
    wp_walk
    subst hPI
    have hout : s.heap.objs.size ∉ [(s.heap.push (setOn w)).objs.size, l] := by
      rw [e1]
      intro m
      rcases List.mem_cons.mp m with z | z
      · exact Nat.ne_of_lt (Nat.lt_succ_self _) z
      · exact Nat.ne_of_gt ltl (List.mem_singleton.mp z)
    refine wpAny_pyIter_tuple hl1 (wpAny_bind (wpAny_runValue ?_))
    have W0 := (Walks.tuple (prog := prog) (w := w) hh3 _ l (show l ≠ (s.heap.push (setOn w)).objs.size by rw [e1]; exact Nat.ne_of_lt (Nat.lt_succ_of_lt ltl)) items).toS
    rw [hsz] at W0
    refine sx_many (xs := xs) W0 hout at_ hb xs.length 0 _ [] (by omega) ⟨⟨_, Heap.get?_push_size _ rfl, rfl, rfl⟩, hl1.push _⟩ (sx_start (Heap.get?_push_of_some _ hS)) List.nodup_nil (fun y => by simp) (Nat.le_refl _) ?_
    rintro ⟨h', g', d', tk', os'⟩ ys m hS' nd hm ll
    obtain rfl : g' = s.gens := m.gens
    obtain rfl : d' = s.drawn := m.drawn
    obtain rfl : os' = s.os := m.os
    refine wpAny_pure (show wpAny _ _ (ret Value.none) _ _ _ from wpAny_pure ⟨rfl, h h' tk' ys hS' nd hm ll fun b o e => ?_⟩)
    have lb := Heap.lt_size e
    refine m.heap b o (fun z => ?_) (Heap.get?_push_of_some _ (Heap.get?_push_of_some _ e))
    rcases List.mem_cons.mp z with z | z
    · exact Nat.ne_of_lt lb z
    · rw [e1] at z
      rcases List.mem_cons.mp z with z | z
      · exact Nat.ne_of_lt (Nat.lt_succ_of_lt lb) z
      · cases z
  · obtain ⟨⟨oc, od, oda, osl⟩, hol, hcl, nl, hdl⟩ := hl
    simp only at hcl hdl
    subst hcl hdl
    have ltl : l < s.heap.objs.size := Heap.lt_size hol
    have hol' : (s.heap.push (setOn w)).get? l = some { cls := .type "list", dict := od, data := .seq items nl, slots := osl } := Heap.get?_push_of_some _ hol
    have hl1 : (s.heap.push (setOn w)).IsList l items := ⟨_, hol', rfl, nl, rfl⟩
    have k8 := PySem.F.sub_list_set
    have k9 := PySem.F.sub_list_frozenset
    have k10 : (Value.type "list" == Value.type "dict") = false := by decide
    unfold Builtin.«set.__init__» noKeywords Builtin.Frozenset.updateFrom
    generalize hPI : pyIter = PI
    wp_walk
    subst hPI
    have hout : s.heap.objs.size ∉ [(s.heap.push (setOn w)).objs.size, l] := by
      rw [e1]
      intro m
      rcases List.mem_cons.mp m with z | z
      · exact Nat.ne_of_lt (Nat.lt_succ_self _) z
      · exact Nat.ne_of_gt ltl (List.mem_singleton.mp z)
    refine wpAny_pyIter_list hl1 (wpAny_bind (wpAny_runValue ?_))
    have W0 := (Walks.list (prog := prog) (w := w) hh3 _ l (show l ≠ (s.heap.push (setOn w)).objs.size by rw [e1]; exact Nat.ne_of_lt (Nat.lt_succ_of_lt ltl)) items).toS
    rw [hsz] at W0
    refine sx_many (xs := xs) W0 hout at_ hb xs.length 0 _ [] (by omega) ⟨⟨_, Heap.get?_push_size _ rfl, rfl, rfl⟩, hl1.push _⟩ (sx_start (Heap.get?_push_of_some _ hS)) List.nodup_nil (fun y => by simp) (Nat.le_refl _) ?_
    rintro ⟨h', g', d', tk', os'⟩ ys m hS' nd hm ll
    obtain rfl : g' = s.gens := m.gens
    obtain rfl : d' = s.drawn := m.drawn
    obtain rfl : os' = s.os := m.os
    refine wpAny_pure (show wpAny _ _ (ret Value.none) _ _ _ from wpAny_pure ⟨rfl, h h' tk' ys hS' nd hm ll fun b o e => ?_⟩)
    have lb := Heap.lt_size e
    refine m.heap b o (fun z => ?_) (Heap.get?_push_of_some _ (Heap.get?_push_of_some _ e))
    rcases List.mem_cons.mp z with z | z
    · exact Nat.ne_of_lt lb z
    · rw [e1] at z
      rcases List.mem_cons.mp z with z | z
      · exact Nat.ne_of_lt (Nat.lt_succ_of_lt lb) z
      · cases z
theorem perm_of_len {α : Type} [DecidableEq α] : ∀ {l ts : List α}, l.Nodup → (∀ y ∈ l, y ∈ ts) → ts.length = l.length → ts.Perm l
  | [], ts, _, _, e => by
    have : ts = [] := List.length_eq_zero_iff.mp e
    rw [this]
  | k :: r, ts, nd, sub, e => by
    obtain ⟨h1, h2⟩ := List.nodup_cons.mp nd
    have mk : k ∈ ts := sub k List.mem_cons_self
    have p := List.perm_cons_erase mk
    refine p.trans (List.Perm.cons _ (perm_of_len h2 (fun y hy => ?_) ?_))
    · exact (List.mem_erase_of_ne (fun z => h1 (by rw [← z]; exact hy))).mpr (sub y (List.mem_cons_of_mem _ hy))
    · rw [List.length_erase_of_mem mk, e]
      rfl
def txt : Value → Str
  | .str x _ => x
  | _ => Str.empty
theorem strs_txt : ∀ {vs : List Value}, (∀ v ∈ vs, ∃ k t, v = Value.str k t) → StrsAre vs (vs.map txt)
  | [], _ => .nil
  | v :: vs, h => by
    obtain ⟨k, t, rfl⟩ := h v List.mem_cons_self
    exact .cons k t (strs_txt fun v hv => h v (List.mem_cons_of_mem _ hv))
/-- sorted(s), s a set of texts -/
theorem sx_sorted {a : Addr} {l : List Str} {Q : Value → Shared → Prop} (S : SX prog w s.heap a l) (nd : l.Nodup) (hh : A.handled = none) (hb : l.length < scanBound)
    (h : ∀ (s' : Shared) (p : Addr) (out : Array Value) (c : Nat) (ys : List Str), (∀ b o, s.heap.get? b = some o → s'.heap.get? b = some o) → s'.gens = s.gens → s'.os = s.os → s'.drawn = s'.drawn → s.heap.objs.size ≤ p → s'.heap.get? p = some (seqObj "list" out c) → StrsAre out.toList ys → ys.Perm l → sortedS ys = true → Q (.ref p) s') :
    wpAny (model prog w) A (call (.builtin "sorted") [.ref a]) Q E s := by
  obtain ⟨⟨es, ep, t⟩, hg, F, r, hl⟩ := S.ex
  have el : ElemsOf (strKind prog w) es.toList := F.el
  have sz : es.size = l.length := F.sz
  have bd : es.size < scanBound := by rw [sz]; exact hb
  have isT : ∀ v ∈ es.toList.map (·.2), ∃ k u, v = Value.str k u := fun v hv => by
    obtain ⟨e, he, q⟩ := List.mem_map.mp hv
    obtain ⟨⟨k, hk, _⟩, _⟩ := el e he
    subst q
    change Value.isStrOf k e.2 = true at hk
    cases h2 : e.2 with
    | str x u => exact ⟨x, u, rfl⟩
    | _ => rw [h2] at hk; cases hk
  refine Calls.call_function_entry kind_sorted plain_sorted entry_sorted (args_sorted1 _) ?_
  unfold Builtin.«sorted»
  refine wpAny_bind (m := checkCount "sorted" 1 1 _) (wpAny_pure (wpAny_bind (collect_set (A := A.in1) hh ⟨_, hg, rfl, rfl⟩ F.fit bd r hl fun s1 vs k1 hz g1 o1 pm => ?_)))
  have hvl : vs.length = l.length := by rw [pm.length_eq, List.length_map, Array.length_toList]; exact sz
  have hS : StrsAre vs (vs.map txt) := strs_txt fun v hv => isT v (pm.mem_iff.mp hv)
  have pl : (vs.map txt).Perm l := by
    refine perm_of_len nd (fun y hy => ?_) (by rw [List.length_map, hvl])
    obtain ⟨e, he, q⟩ := (F.mem y).mp hy
    refine List.mem_map.mpr ⟨e.2, pm.mem_iff.mpr (List.mem_map.mpr ⟨e, he, rfl⟩), ?_⟩
    change Value.isStrOf y e.2 = true at q
    cases h2 : e.2 with
    | str x u =>
      rw [h2] at q
      exact (beq_iff_eq.mp (show (x == y) = true from by simpa [Value.isStrOf] using q))
    | _ => rw [h2] at q; cases q
  have zl : vs.length ≤ sizeLine := by rw [hvl]; exact fits_of_scanBound hb
  refine wpAny_bind (wpAny_newList ?_ zl)
  have hoL : (s1.heap.push (seqObj "list" vs.toArray 0)).get? s1.heap.objs.size = some (seqObj "list" vs.toArray 0) := Heap.get?_push_size _ rfl
  refine wpAny_bind (wpAny_holding (wpAny_call_entry slot_list_sort ⟨_, hoL, rfl⟩ entry_list_sort (list_sort_treeKAny strKind_oneLt hoL hS.keysOf (fun v₁ v₂ rest e => keyKind_strs (by rw [← e]; exact hS)) zl fun st hp hs => ⟨_, rfl, ?_⟩) (args_list_sort _)))
  obtain ⟨ys, h1, h2, h3⟩ := sorted_out_str hS hp hs
  obtain ⟨c, hc⟩ := sortedHeap_at (vs := vs) (out := (arrOf st).map (·.2)) hoL
  refine wpAny_pure ⟨_, rfl, h _ s1.heap.objs.size _ c ys (fun b u e => ?_) g1 o1 rfl hz hc h1 (h2.trans pl) h3⟩
  have lb := Heap.lt_size (k1 b u e)
  show (sortedHeap (s1.heap.push (seqObj "list" vs.toArray 0)) s1.heap.objs.size vs _).get? b = some u
  rw [sortedHeap_old (Nat.ne_of_lt lb) (by rw [size_push']; exact Nat.lt_succ_of_lt lb)]
  exact Heap.get?_push_of_some _ (k1 b u e)
end
end Cv

/-! part B11 -/
set_option maxRecDepth 100000
set_option maxHeartbeats 4000000
namespace Cv
open PySem PySem.Spec PyProof.Rows L2
open PySem.W (Frag)
section
variable {X : Cx}
/-! ### sorted(set(xs)) -/
def tSortSet (K : Frag) (ta : TE) : TE := fun σ H Q => ta σ H fun x H1 => ∃ (l : Addr) (xs : List Str), x = V.ref l ∧ (SqT K H1 l (xs.map V.str) ∨ SqL K H1 l (xs.map V.str)) ∧ xs.length ≤ 4000 ∧
  ∀ (ys : List Str) (p : Addr), ys.Nodup → (∀ y, y ∈ ys ↔ y ∈ xs) → ys.length ≤ xs.length → sortedS ys = true → H1 p = none → Q (.ref p) (upd H1 p (.lst (ys.map V.str)))
theorem srt_fin {pins : List (Addr × Obj)} {σ : L2.St} {H1 : Hp} {s1 : Shared} {a : Addr} {l : List Str} {Q : VK} (hc : X.calm = true) (I2 : Inv X pins σ H1 s1) (S : SX X.prog X.w s1.heap a l) (nd : l.Nodup) (hb : l.length ≤ 4000)
    (q : ∀ (ys : List Str) (p : Addr), ys.Perm l → sortedS ys = true → H1 p = none → Q (.ref p) (upd H1 p (.lst (ys.map V.str)))) : wpAny (model X.prog X.w) X.A (call (.builtin "sorted") [.ref a]) (EP X pins σ Q) X.xe s1 := by
  refine sx_sorted S nd (I2.ok.hd hc) (by unfold scanBound; omega) fun s' p out c ys k g o _ hp hg hi pl hs => ?_
  have hlen : (ys.map V.str).length ≤ sizeLine := by rw [List.length_map, pl.length_eq, sizeLine_eq]; omega
  have hn : H1 p = none := I2.hok.fresh hp
  have J : Inv X pins σ (upd H1 p (.lst (ys.map V.str))) { s1 with heap := s'.heap, gens := s'.gens, drawn := s'.drawn, toks := s'.toks } :=
    I2.call (ch := []) (Un.laid k hp hn) (I2.hok.laid k hp ⟨hlen, out.toList, c, vals_of_strs hi, hg⟩) (by rw [g]; exact I2.bare) (fun _ z => nomatch z)
  obtain ⟨h', g', d', t', o'⟩ := s'
  cases o
  exact ⟨.ref p, _, J, rfl, q ys p pl hs hn⟩
theorem pe_sortSet {a : Expr} {ta : TE} {p p2 q pos : Pos} (hc : X.calm = true) (hg : Gl X "sorted") (hm : X.mg "sorted" = none) (hg2 : Gl X "set") (hm2 : X.mg "set" = none) (ha : PE X a ta)
    (na : starEach [a] X.env = (false, eval a X.env) :: starEach [] X.env := by rfl) : PE X (.Call (.Name "sorted" p) [.Call (.Name "set" p2) [a] [] q] [] pos) (tSortSet X.K ta) := by
  refine ⟨fun pins s σ H Q I h => ?_⟩
  refine Call_ (ld_blt I hg hm PyProof.Rows.boot_sorted (PyProof.Rows.callWith_builtin1 (PyProof.Rows.args_cons (Call_ (ld_blt I hg2 hm2 PyProof.Rows.boot_set
    (PyProof.Rows.callWith_type1 (PyProof.Rows.args_cons (thn (ha.run pins s σ H _ I h) fun v s1 ⟨x, H1, I1, r1, q1⟩ => PyProof.Rows.args_nil ?_) na) na rfl))) rfl) rfl rfl))
  obtain ⟨l, xs, rfl, hq, hz, q1⟩ := q1
  cases r1
  rcases hq with hq | hq
  · obtain ⟨its, r, pt, _⟩ := I1.tuple hq
    refine sx_of (I1.ok.hd hc) (.inl pt) (xs := xs) (by simpa using r.strs) (by unfold scanBound; omega) fun h' tk ys hS nd hm ll hk => PyProof.Rows.args_nil ?_
    exact srt_fin hc (I1.kept hk) hS nd (by omega) fun zs p pl hs hn => q1 zs p (pl.nodup_iff.mpr nd) (fun y => pl.mem_iff.trans (hm y)) (by rw [pl.length_eq]; exact ll) hs hn
  · obtain ⟨its, r, pt, _⟩ := I1.list hq
    refine sx_of (I1.ok.hd hc) (.inr pt.isList) (xs := xs) (by simpa using r.strs) (by unfold scanBound; omega) fun h' tk ys hS nd hm ll hk => PyProof.Rows.args_nil ?_
    exact srt_fin hc (I1.kept hk) hS nd (by omega) fun zs p pl hs hn => q1 zs p (pl.nodup_iff.mpr nd) (fun y => pl.mem_iff.trans (hm y)) (by rw [pl.length_eq]; exact ll) hs hn
end
end Cv

/-! part B12 -/
set_option maxRecDepth 100000
set_option maxHeartbeats 4000000
namespace Cv
open PySem PySem.Spec PyProof.Rows L2
open PySem.W (Frag)
section
variable {X : Cx}
/-! ### != of dicts of data, with the same keys -/
def rNeD (K : Frag) : R2 := fun x y H Q => ∃ (a b : Addr) (j1 j2 : Addr) (ys : List Key) (vs ws : List V) (ds es : List PyData), x = .ref a ∧ y = .ref b ∧ H a = some (.dK (ys.zip vs)) ∧ H b = some (.dK (ys.zip ws)) ∧ ys.Nodup ∧ vs.length = ys.length ∧ ws.length = ys.length ∧
  DxAll K H j1 vs ds ∧ DxAll K H j2 ws es ∧ (∀ d ∈ ds, SmD d) ∧ (∀ d ∈ es, SmD d) ∧ Q (.bl (!((ds.zip es).all fun p => PyData.eqv p.1 p.2))) H
theorem op_neD (hu : X.A.units + 64 < cLine) : OpR X (compareOp .NotEq) (rNeD X.K) := by
  intro pins s σ H x y v u Q I rx ry h
  obtain ⟨a, b, j1, j2, ys, vs, ws, ds, es, rfl, rfl, ea, eb, nd, lv, lw, hd, he, sd, se, q⟩ := h
  obtain rfl : v = Value.ref a := rx
  obtain rfl : u = Value.ref b := ry
  obtain ⟨_, ya, va, ra, da⟩ := (show ObjOk X.prog X.w H s.heap a (.dK (ys.zip vs)) from I.hok a _ ea)
  obtain ⟨_, yb, vb, rb, db⟩ := (show ObjOk X.prog X.w H s.heap b (.dK (ys.zip ws)) from I.hok b _ eb)
  have hl : va.length = vb.length := by
    rw [← ra.length, ← rb.length, List.length_zip, List.length_zip, lv, lw]
  have nd2 : ((ys.zip ws).map (·.1)).Nodup := by
    rw [List.map_fst_zip (by omega)]
    exact nd
  exact PySem.W.keq_ne (knd := mixKind X.prog X.w) (r := (ds.zip es).all fun p => PyData.eqv p.1 p.2) ya yb da db (by omega) (fun _ => hits_data I (by show X.A.units + 1 + 60 < cLine; omega) rb ys vs ws ds es va lv lw ra (fun p hp => val_nodup nd2 p hp) hd he sd se) (fin_bl I q (by simp [hl]))
theorem all_zip {α β : Type} (f g : α → β) (p : β → β → Bool) : ∀ l : List α, (((l.map f).zip (l.map g)).all fun q => p q.1 q.2) = l.all fun y => p (f y) (g y)
  | [] => rfl
  | y :: l => by
    show (p (f y) (g y) && ((l.map f).zip (l.map g)).all fun q => p q.1 q.2) = (p (f y) (g y) && l.all fun y => p (f y) (g y))
    rw [all_zip f g p l]
end
end Cv

/-! part B13 -/
set_option maxRecDepth 100000
set_option maxHeartbeats 4000000
namespace Cv
open PySem PySem.Spec PyProof.Rows L2
open PySem.W (Frag)
section
variable {X : Cx}
/-! ### == and != of dicts of data, the second one's keys in any order -/
def EqG (K : Frag) (x y : V) (H : Hp) (r : Bool) : Prop := ∃ (a b : Addr) (j1 j2 : Addr) (ys : List Key) (vs ws : List V) (ds es : List PyData) (full : List (Key × V)), x = .ref a ∧ y = .ref b ∧ H a = some (.dK (ys.zip vs)) ∧ H b = some (.dK full) ∧ full.length = ys.length ∧ vs.length = ys.length ∧ ws.length = ys.length ∧
  (∀ p ∈ ys.zip ws, valV full p.1 = some p.2) ∧ DxAll K H j1 vs ds ∧ DxAll K H j2 ws es ∧ (∀ d ∈ ds, SmD d) ∧ (∀ d ∈ es, SmD d) ∧ ((ds.zip es).all fun p => PyData.eqv p.1 p.2) = r
def rEqG (K : Frag) : R2 := fun x y H Q => ∃ r, EqG K x y H r ∧ Q (.bl r) H
def rNeG (K : Frag) : R2 := fun x y H Q => ∃ r, EqG K x y H r ∧ Q (.bl (!r)) H
theorem op_eqG (hu : X.A.units + 64 < cLine) : OpR X (compareOp .Eq) (rEqG X.K) := by
  intro pins s σ H x y v u Q I rx ry h
  obtain ⟨r, ⟨a, b, j1, j2, ys, vs, ws, ds, es, full, rfl, rfl, ea, eb, lf, lv, lw, hf, hd, he, sd, se, er⟩, q⟩ := h
  obtain rfl : v = Value.ref a := rx
  obtain rfl : u = Value.ref b := ry
  obtain ⟨_, ya, va, ra, da⟩ := (show ObjOk X.prog X.w H s.heap a (.dK (ys.zip vs)) from I.hok a _ ea)
  obtain ⟨_, yb, vb, rb, db⟩ := (show ObjOk X.prog X.w H s.heap b (.dK full) from I.hok b _ eb)
  have hl : va.length = vb.length := by
    rw [← ra.length, ← rb.length, List.length_zip, lv, lf]
    omega
  exact PySem.W.keq_eq (knd := mixKind X.prog X.w) (r := (ds.zip es).all fun p => PyData.eqv p.1 p.2) ya yb da db (by omega) (fun _ => hits_data I (by show X.A.units + 1 + 60 < cLine; omega) rb ys vs ws ds es va lv lw ra hf hd he sd se) (fin_bl I q (by rw [er]; simp [hl]))
theorem op_neG (hu : X.A.units + 64 < cLine) : OpR X (compareOp .NotEq) (rNeG X.K) := by
  intro pins s σ H x y v u Q I rx ry h
  obtain ⟨r, ⟨a, b, j1, j2, ys, vs, ws, ds, es, full, rfl, rfl, ea, eb, lf, lv, lw, hf, hd, he, sd, se, er⟩, q⟩ := h
  obtain rfl : v = Value.ref a := rx
  obtain rfl : u = Value.ref b := ry
  obtain ⟨_, ya, va, ra, da⟩ := (show ObjOk X.prog X.w H s.heap a (.dK (ys.zip vs)) from I.hok a _ ea)
  obtain ⟨_, yb, vb, rb, db⟩ := (show ObjOk X.prog X.w H s.heap b (.dK full) from I.hok b _ eb)
  have hl : va.length = vb.length := by
    rw [← ra.length, ← rb.length, List.length_zip, lv, lf]
    omega
  exact PySem.W.keq_ne (knd := mixKind X.prog X.w) (r := (ds.zip es).all fun p => PyData.eqv p.1 p.2) ya yb da db (by omega) (fun _ => hits_data I (by show X.A.units + 1 + 60 < cLine; omega) rb ys vs ws ds es va lv lw ra hf hd he sd se) (fin_bl I q (by rw [er]; simp [hl]))
/-! ### len(set(l)), l a list of texts -/
def tLenSetL (K : Frag) (ta : TE) : TE := fun σ H Q => ta σ H fun x H1 => ∃ (l : Addr) (xs : List Str), x = V.ref l ∧ SqL K H1 l (xs.map V.str) ∧ xs.length ≤ 4000 ∧ ∀ ys : List Str, ys.Nodup → (∀ y, y ∈ ys ↔ y ∈ xs) → Q (.int ys.length) H1
theorem pe_lenSetL {a : Expr} {ta : TE} {p p2 q pos : Pos} (hc : X.calm = true) (hg : Gl X "len") (hm : X.mg "len" = none) (hg2 : Gl X "set") (hm2 : X.mg "set" = none) (ha : PE X a ta)
    (na : starEach [a] X.env = (false, eval a X.env) :: starEach [] X.env := by rfl) : PE X (.Call (.Name "len" p) [.Call (.Name "set" p2) [a] [] q] [] pos) (tLenSetL X.K ta) := by
  refine ⟨fun pins s σ H Q I h => ?_⟩
  refine Call_ (ld_blt I hg hm PySem.boot_len (PyProof.Rows.callWith_builtin1 (PyProof.Rows.args_cons (Call_ (ld_blt I hg2 hm2 PyProof.Rows.boot_set
    (PyProof.Rows.callWith_type1 (PyProof.Rows.args_cons (thn (ha.run pins s σ H _ I h) fun v s1 ⟨x, H1, I1, r1, q1⟩ => PyProof.Rows.args_nil ?_) na) na rfl))) rfl) rfl rfl))
  obtain ⟨l, xs, rfl, hq, hz, q1⟩ := q1
  cases r1
  obtain ⟨its, r, pt, _⟩ := I1.list hq
  refine sx_of (I1.ok.hd hc) (.inr pt.isList) (xs := xs) (by simpa using r.strs) (by unfold scanBound; omega) fun h' tk ys hS nd hm ll hk => PyProof.Rows.args_nil ?_
  obtain ⟨⟨es, ep, t⟩, ho, F, _, _⟩ := hS.ex
  have I2 : Inv X pins σ H1 { s1 with heap := h', toks := tk } := I1.kept hk
  have sz : es.size = ys.length := F.sz
  refine call_len_set ho ⟨rfl, rfl, rfl⟩ rfl F.fit (by rw [sz]; omega) ⟨.int ys.length, H1, I2.tok _, ⟨_, by rw [sz]⟩, q1 ys nd hm⟩
end
end Cv

/-! part B14 -/
set_option maxRecDepth 100000
set_option maxHeartbeats 4000000
namespace Cv
open PySem PySem.Spec PyProof.Rows L2
open PySem.W (Frag)
/-! ### {**a, **b} -/
section
variable {prog : Program} {w : World} {KT : Type} [DecidableEq KT] {kd : KeyKind prog w KT} {A : Around} {E : Value → Shared → Prop} {s : Shared}
theorem put_at {d : Addr} {l : List (KT × Value)} {k : KT} {kv v : Value} {Q : Unit → Shared → Prop} (hk : kd.is k kv = true) (D : s.heap.DictOf kd d l) (hz : l.length ≤ sizeLine)
    (q : ∀ h', h'.DictOf kd d (stored l k v) → Heap.SameBut d s.heap h' → Q () { s with heap := h' }) : wpAny (model prog w) A (dictPut d (kd.hash k) kv v) Q E s := by
  obtain ⟨ob, es, ep, g, c, dd, ks, ps, nd⟩ := D
  have sz : es.size ≤ sizeLine := by
    have h1 := ps.length
    rw [Array.length_toList] at h1
    omega
  unfold dictPut
  refine wpAny_bind (wpAny_dictFind_of hk g dd ks ?_)
  have ix : (es.findIdx? fun e => kd.is k e.key) = l.findIdx? fun p => decide (p.1 = k) := by
    have h1 := ps.findIdx k
    rw [← h1]
    obtain ⟨l⟩ := es
    simp
  cases fi : es.findIdx? fun e => kd.is k e.key with
  | none =>
    have out : k ∉ l.map (·.1) := not_mem_of_findIdx_none (ix ▸ fi)
    have no : ¬ (l.any fun p => decide (p.1 = k)) = true := fun z => by
      obtain ⟨p, hp, e⟩ := List.any_eq_true.mp z
      exact out (List.mem_map.mpr ⟨p, hp, of_decide_eq_true e⟩)
    have st : stored l k v = l ++ [(k, v)] := by rw [stored, if_neg no]
    refine wpAny_updateDictKeys (hz := sz) g dd (q _ ?_ (Heap.SameBut.update ..))
    have pa : Pairs kd (es.push ⟨kd.hash k, kv, v⟩).toList (l ++ [(k, v)]) := by
      have h1 := ps.append hk (kd.hash k) v
      obtain ⟨z⟩ := es
      simpa using h1
    have n2 : ((l ++ [(k, v)]).map (·.1)).Nodup := by
      rw [List.map_append, List.nodup_append]
      refine ⟨nd, by simp, fun a ha b hb e => ?_⟩
      have hb' : b = k := by simpa using hb
      exact out (by rw [← hb', ← e]; exact ha)
    rw [st]
    exact ⟨_, _, ep + 1, Heap.get?_update_self _ g (Obj.isFreed_of_dict (Obj.data_mapDictKeys dd _)), c.mapDictKeys _, Obj.data_mapDictKeys dd _, ks.push hk _, pa, n2⟩
  | some i =>
    have yes := any_of_findIdx_some (ix ▸ fi)
    refine wpAny_updateDict g dd (q _ ?_ (Heap.SameBut.update ..))
    have fl : (es.toList.findIdx? fun e => kd.is k e.key) = some i := by
      rw [← fi]
      obtain ⟨z⟩ := es
      simp
    have h1 := ps.modify nd fl v
    have pa : Pairs kd (es.modify i fun e => { e with val := v }).toList (stored l k v) := by
      rw [stored, if_pos yes]
      obtain ⟨z⟩ := es
      simpa using h1
    have n2 : ((stored l k v).map (·.1)).Nodup := by
      rw [stored, if_pos yes, keys_map_store]
      exact nd
    exact ⟨_, _, ep, Heap.get?_update_self _ g (Obj.isFreed_of_dict (Obj.data_mapDict dd _)), c.mapDict _, Obj.data_mapDict dd _, ks.modify _ _, pa, n2⟩
theorem merge_map {d o : Addr} {l more : List (KT × Value)} {Q : Unit → Shared → Prop} (ne : d ≠ o) (os : (o == sysModules) = false) (D : s.heap.DictOf kd d l) (O : s.heap.DictOf kd o more) (nr : ∀ k v, kd.is k v = true → ∀ a : Addr, v ≠ .ref a)
    (hz : l.length + more.length ≤ sizeLine) (q : ∀ h', h'.DictOf kd d (merged l more) → h'.DictOf kd o more → Heap.SameBut d s.heap h' → Q () { s with heap := h' }) : wpAny (model prog w) A (mergeMapping d (.ref o) false) Q E s := by
  obtain ⟨od, ed, pd, gd, cd, dd, kd1, pd1, nd⟩ := id D
  obtain ⟨oo, eo, po, go, co, do_, ko, po1, no⟩ := id O
  unfold mergeMapping
  refine wpAny_bind (wpAny_isInstance O.typeIs isSubtype_dict_dict ?_)
  rw [if_pos rfl]
  refine wpAny_bind (wpAny_specialOf O.typeIs F.slot_dict_iter.lookup ?_)
  simp only [beq_self_eq_true, pure_bind]
  rw [if_neg (by rw [os]; exact Bool.false_ne_true)]
  have LL : more.length = eo.size := by rw [← po1.length, Array.length_toList]
  have loop : wpAny (model prog w) A (do
      let l' ← dictEntries o
      let epoch ← dictEpoch o
      forIn (List.range l'.size) PUnit.unit fun i (_ : PUnit) => (do
        let l2 ← dictEntries o
        match l2[i]? with
          | some e => do
            holding [e.key, e.val] (dictPut d e.hash e.key e.val)
            let ep ← dictEpoch o
            if (ep != epoch) = true then do
                (unsupported "dict.changed-during-merge" : Sem PUnit)
                pure (ForInStep.yield PUnit.unit)
              else pure (ForInStep.yield PUnit.unit)
          | _ => do
            (unsupported "dict.changed-during-merge" : Sem PUnit)
            pure (ForInStep.yield PUnit.unit) : Sem (ForInStep PUnit))
      pure ()) Q E s := by
    refine wpAny_bind (wpAny_dictEntries go do_ ?_)
    refine wpAny_bind (wpAny_dictEpoch go do_ ?_)
    refine wpAny_bind ?_
    rw [List.range_eq_range']
    refine wpAny_forIn_list _ (fun rest _ s' => ∃ (h' : Heap) (i : Nat), s' = { s with heap := h' } ∧ rest = List.range' i (eo.size - i) ∧ i ≤ eo.size ∧ h'.DictOf kd d (merged l (more.take i)) ∧ h'.get? o = some oo ∧ Heap.SameBut d s.heap h') _ ?_ ?_ _ _
      ⟨s.heap, 0, rfl, by simp, Nat.zero_le _, by simpa [merged] using D, go, Heap.SameBut.refl _ _⟩
    · rintro x rest b s' ⟨h1, i, rfl, er, le, D1, g1, sb⟩
      have lt : i < eo.size := by
        rcases Nat.lt_or_ge i eo.size with z | z
        · exact z
        · rw [Nat.sub_eq_zero_of_le z] at er
          cases er
      have e1 : eo.size - i = (eo.size - (i + 1)) + 1 := by omega
      rw [e1, List.range'_succ] at er
      obtain ⟨ex, er⟩ := List.cons.inj er
      subst ex
      refine wpAny_bind (wpAny_dictEntries g1 do_ ?_)
      rw [Array.getElem?_eq_getElem lt]
      obtain ⟨p, hp⟩ : ∃ p, more[x]? = some p := ⟨more[x]'(by rw [LL]; exact lt), List.getElem?_eq_getElem _⟩
      obtain ⟨hk, hv⟩ := po1.get? (e := eo[x]) (by simp [lt]) hp
      obtain ⟨k2, hk2, hh⟩ := ko eo[x] (Array.getElem_mem lt)
      obtain rfl : k2 = p.1 := kd.inj _ _ _ hk2 hk
      show wpAny _ _ (holding [eo[x].key, eo[x].val] (dictPut d eo[x].hash eo[x].key eo[x].val) >>= _) _ _ _
      rw [hh, hv]
      have lz : (merged l (more.take x)).length ≤ sizeLine := by
        have z1 := merged_length_le l (more.take x)
        have z2 := List.length_take_le x more
        omega
      refine wpAny_bind (wpAny_holding (put_at hk D1 lz fun h2 D2 sb2 => ?_))
      have g2 : h2.get? o = some oo := (sb2.2 o (Ne.symm ne)).trans g1
      refine wpAny_bind (wpAny_dictEpoch g2 do_ ?_)
      rw [if_neg (by simp)]
      exact wpAny_pure ⟨h2, x + 1, rfl, er, lt, by rw [merged_take_succ l more x p hp]; exact D2, g2, sb.trans sb2⟩
    · rintro b s' ⟨h1, i, rfl, er, le, D1, g1, sb⟩
      have ei : i = eo.size := by
        rcases Nat.lt_or_ge i eo.size with z | z
        · have e1 : eo.size - i = (eo.size - (i + 1)) + 1 := by omega
          rw [e1, List.range'_succ] at er
          cases er
        · exact Nat.le_antisymm le z
      rw [ei, ← LL, List.take_length] at D1
      exact wpAny_pure (q h1 D1 ⟨oo, eo, po, g1, co, do_, ko, po1, no⟩ sb)
  refine wpAny_bind (wpAny_dictEntries gd dd ?_)
  split
  · refine wpAny_bind (wpAny_dictEntries go do_ ?_)
    refine wpAny_bind ?_
    rw [← Array.forIn_toList]
    refine wpAny_forIn_list _ (fun rest _ s' => s' = s ∧ ∀ e ∈ rest, e ∈ eo.toList) _ ?_ ?_ _ _ ⟨rfl, fun e h => h⟩
    · rintro e rest b s' ⟨rfl, m⟩
      obtain ⟨k, hk, _⟩ := ko e (Array.mem_toList_iff.mp (m e List.mem_cons_self))
      have nk := nr k e.key hk
      split
      · rename_i a ea
        exact absurd ea (nk a)
      · exact wpAny_pure ⟨rfl, fun e h => m e (List.mem_cons_of_mem _ h)⟩
    · rintro b s' ⟨rfl, _⟩
      exact loop
  · exact loop
end
end Cv

/-! part B15 -/
set_option maxRecDepth 100000
set_option maxHeartbeats 4000000
namespace Cv
open PySem PySem.Spec PyProof.Rows L2
open PySem.W (Frag)
section
variable {X : Cx}
def tStar2 (ta tb : TE) : TE := fun σ H Q => ∀ p, H p = none → ta σ (upd H p (.dK [])) fun x H1 => ∃ (d : Addr) (kvs : List (Key × V)), x = .ref d ∧ d ≠ p ∧ H1 d = some (.dK kvs) ∧ H1 p = some (.dK []) ∧ kvs.length ≤ 1000 ∧
  tb σ (upd H1 p (.dK (mergeK [] kvs))) fun y H2 => ∃ (e : Addr) (kws : List (Key × V)), y = .ref e ∧ e ≠ p ∧ H2 e = some (.dK kws) ∧ H2 p = some (.dK (mergeK [] kvs)) ∧ kws.length ≤ 1000 ∧ Q (.ref p) (upd H2 p (.dK (mergeK (mergeK [] kvs) kws)))
theorem pe_star2 {a b : Expr} {ta tb : TE} {pos : Pos} (ha : PE X a ta) (hb : PE X b tb) : PE X (.Dict [none, none] [a, b] pos) (tStar2 ta tb) := by
  refine ⟨fun pins s σ H Q I h => ?_⟩
  have n0 := I.hok.fresh (Nat.le_refl s.heap.objs.size)
  have I1 := I.laid (a := s.heap.objs.size) (o := .dK []) (h' := s.heap.push { cls := .type "dict", data := .dict #[] }) (t' := s.toks) (fun _ _ q => Heap.get?_push_of_some _ q) (Nat.le_refl _) (dk_empty s.heap I.big)
  show wpAny _ _ (do standAt pos; dictDisplay [(none, do let x ← eval a X.env; standAt pos; pure x), (none, do let x ← eval b X.env; standAt pos; pure x)]) _ _ s
  refine wpAny_bind (wpAny_standAt ?_)
  unfold dictDisplay
  simp only [List.forIn_cons, List.forIn_nil]
  have nr : ∀ k v, (mixKind X.prog X.w).is k v = true → ∀ a : Addr, v ≠ .ref a := fun k v hk a e => by
    subst e
    rcases keyIs_shape hk with ⟨i, t, _, z⟩ | ⟨x, t, _, z⟩ <;> cases z
  refine wpAny_bind (wpAny_bind (wpAny_bind (show wpAny _ _ (pure none : Sem (Option Addr)) _ _ _ from wpAny_pure ?_)))
  dsimp only
  refine wpAny_bind (wpAny_alloc ?_)
  refine wpAny_bind (wpAny_holding (wpAny_bind (thn (ha.run pins _ σ _ _ I1 (h _ n0)) fun v s1 ⟨x, H1, I2, r1, q1⟩ => wpAny_bind (wpAny_standAt (wpAny_pure ?_)))))
  obtain ⟨d, kvs, rfl, ne, hd, hp, lz, q1⟩ := q1
  cases r1
  obtain ⟨_, os1, vs1, kv1, D1⟩ := dk_of I2.hok hd
  obtain ⟨_, osp, vsp, kvp, Dp⟩ := dk_of I2.hok hp
  cases kvp
  have L1 : vs1.length ≤ 1000 := by rw [← kv1.length]; exact lz
  refine wpAny_bind (wpAny_onRaise (wpAny_tryCatch (wpAny_onRaise (wpAny_holding (merge_map (Ne.symm ne) os1 Dp D1 nr (Nat.le_trans (show 0 + vs1.length ≤ 1000 by omega) (by decide)) fun h1 M1 O1 sb1 => ?_)))))
  refine wpAny_pure ?_
  dsimp only
  have z1 : (mergeK [] kvs).length ≤ sizeLine := Nat.le_trans (length_mergeK kvs []) (Nat.le_trans (show 0 + kvs.length ≤ 1000 by omega) (by decide))
  have I3 := d_write (t' := s1.toks) I2 (by rw [hp]; exact True.intro) sb1 (let ⟨u, _, _, e, _⟩ := M1; ⟨u, e⟩) (dk_new z1 osp (kv1.merge .nil) M1)
  refine wpAny_bind (wpAny_bind (show wpAny _ _ (pure (some s.heap.objs.size) : Sem (Option Addr)) _ _ _ from wpAny_pure ?_))
  dsimp only
  refine wpAny_bind (wpAny_pure ?_)
  refine wpAny_bind (wpAny_holding (wpAny_bind (thn (hb.run pins _ σ _ _ I3 q1) fun v s2 ⟨x, H2, I4, r2, q2⟩ => wpAny_bind (wpAny_standAt (wpAny_pure ?_)))))
  obtain ⟨e, kws, rfl, ne2, he, hp2, lz2, q2⟩ := q2
  cases r2
  obtain ⟨_, os2, vs2, kv2, D2⟩ := dk_of I4.hok he
  obtain ⟨_, osq, vsq, kvq, Dq⟩ := dk_of I4.hok hp2
  have L2 : vs2.length ≤ 1000 := by rw [← kv2.length]; exact lz2
  have Lq : vsq.length ≤ 1000 := by rw [← kvq.length]; exact Nat.le_trans (length_mergeK kvs []) (by rw [List.length_nil]; omega)
  refine wpAny_bind (wpAny_onRaise (wpAny_tryCatch (wpAny_onRaise (wpAny_holding (merge_map (Ne.symm ne2) os2 Dq D2 nr (Nat.le_trans (show vsq.length + vs2.length ≤ 2000 by omega) (by decide)) fun h2 M2 O2 sb2 => ?_)))))
  refine wpAny_pure ?_
  dsimp only
  have z2 : (mergeK (mergeK [] kvs) kws).length ≤ sizeLine := Nat.le_trans (length_mergeK kws _) (Nat.le_trans (show _ ≤ 2000 by have := length_mergeK kvs []; rw [List.length_nil] at this; omega) (by decide))
  have I5 := d_write (t' := s2.toks) I4 (by rw [hp2]; exact True.intro) sb2 (let ⟨u, _, _, e, _⟩ := M2; ⟨u, e⟩) (dk_new z2 osq (kv2.merge kvq) M2)
  refine wpAny_pure ?_
  refine wpAny_bind (show wpAny _ _ (pure (some s.heap.objs.size) : Sem (Option Addr)) _ _ _ from wpAny_pure ?_)
  exact wpAny_pure ⟨.ref _, _, I5, rfl, q2⟩
end
end Cv

/-! part B16 -/
set_option maxRecDepth 100000
set_option maxHeartbeats 4000000
namespace Cv
open PySem PySem.Spec PyProof.Rows L2
open PySem.W (Frag)
open AutoSeq1 (wpAny_loadPart')
/-! ### tuple(d), d a dict -/
section
variable {prog : Program} {w : World} {A : Around} {E : Value → Shared → Prop} {s : Shared}
theorem tup_new_d {d : Addr} {o : Obj} {n : Nat} {P : Nat → Value → Prop} {OK : Heap → Prop} {Q₁ : Value → Shared → Prop} (S : PySem.W.KdlSrc prog w "dict" d d n P OK) (g : s.heap.get? d = some o) (c : o.cls = .type "dict") (hh : A.handled = none) (ok : OK s.heap) (z : n ≤ sizeLine)
    (q : ∀ (h' : Heap) (tk : Nat) (acc : Array Value), (∀ b o, s.heap.get? b = some o → h'.get? b = some o) → ItemsOf P acc n → Q₁ (.ref h'.objs.size) { s with heap := h'.push { cls := .type "tuple", data := .seq acc }, toks := tk }) :
    codeAny (model prog w) A (.call (.builtin "tuple.__new__") ⟨[.type "tuple", .ref d], []⟩) (wants Q₁ E) s := by
  have k1 := sub_tuple_self
  have k2 := init_tuple_lookup
  have k3 := madeHere_tuple
  refine codeAny_of_tree (show wpAny _ A.in1 (do checkBuiltinCall "tuple.__new__" ⟨[.type "tuple", .ref d], []⟩; again (.builtin "tuple.__new__" ⟨[.type "tuple", .ref d], []⟩)) _ _ s from wpAny_bind (wpAny_of_eq (F.newCall_tuple_1 _) (wpAny_pure ⟨plainId_quiet F.plain_tuple_new _, codeAny_builtin F.entry_tuple_new ?_⟩)))
  rw [Around.under_plainId F.plain_tuple_new _]
  have hin : A.in1.handled = none := by simp [hh]
  have k4 : s.TypeIs (.ref d) "dict" := ⟨o, g, c⟩
  wp_walk using wpAny_typeOf k4, PySem.W.kdu_collect (A := A.in1) S hin ok z
  intro h' tk acc k5 k6
  show wpAny _ _ (Builtin.Tuple.tupleExact acc.toList.toArray >>= fun v => ret v) _ _ _
  unfold Builtin.Tuple.tupleExact
  refine wpAny_bind (wpAny_newObj_type ?_ (by show acc.toList.toArray.size ≤ sizeLine; rw [Array.toArray_toList, k6.1]; exact z))
  rw [show acc.toList.toArray = acc by simp]
  exact wpAny_pure (q h' tk acc k5 k6)
end
section
variable {X : Cx}
def rTupD : List V → Hp → VK → Prop := fun xs H Q => ∃ (a : Addr) (kvs : List (Key × V)), xs = [.ref a] ∧ Rd H a (.dK kvs) ∧ ∀ p, H p = none → Q (.ref p) (upd H p (.tup (kvs.map fun kv => kV kv.1)))
theorem call_tupD (hc : X.calm = true) : CallR X (.type "tuple") rTupD := by
  intro pins s σ H xs us Q I r q
  obtain ⟨a, kvs, rfl, hd, q⟩ := q
  obtain ⟨u, rfl, rx⟩ := vals1 r
  cases rx
  obtain ⟨z, lo, vs, rel, dd⟩ := dk_rd I.hok hd
  obtain ⟨ep, at_⟩ := dd.dictAt
  obtain ⟨o, _, _, g, ex, _⟩ := id dd
  have lz : vs.length ≤ sizeLine := by rw [← rel.length]; exact z
  refine callType_codes (Q₁ := fun obj s₁ => s₁.TypeIs obj "tuple" ∧ EP X pins σ Q obj s₁) F.called_tuple (F.typeCall_tuple_1 _) F.entry_object_init
    (tup_new_d (PySem.W.kdl_dict (knd := mixKind X.prog X.w) (kvs := vs) (ep := ep) lo) g ex.1 (by have := I.ok.hd hc; simp [this]) at_ lz fun h' tk acc k1 k2 => ⟨⟨_, Heap.get?_push_size _ rfl, rfl⟩, ?_⟩) fun obj s₁ h₁ => ?_
  · have I1 : Inv X pins σ H { s with heap := h', toks := tk } := I.kept k1
    have al : acc.toList.length = vs.length := by rw [Array.length_toList, k2.1]
    have ks : kvs.map (fun kv => kV kv.1) = vs.map fun p => kV p.1 := by
      have e := congrArg (List.map kV) rel.keys
      rw [List.map_map, List.map_map] at e
      exact e
    have rv : Vals (kvs.map fun kv => kV kv.1) acc.toList := by
      rw [ks]
      exact keys_at al fun j v e => by
        obtain ⟨k, x, e1, e2⟩ := k2.2 j v (by rw [← Array.getElem?_toList]; exact e)
        exact ⟨k, x, e1, e2⟩
    refine ⟨.ref h'.objs.size, upd H h'.objs.size (.tup (kvs.map fun kv => kV kv.1)), I1.laid (t' := tk) (fun b u e => Heap.get?_push_of_some _ e) (Nat.le_refl _) (show ObjOk X.prog X.w _ _ _ (.tup _) from ⟨by rw [List.length_map]; exact z, acc.toList, rv, _, Heap.get?_push_size _ rfl, rfl, 0, by simp⟩), rfl, q _ (I1.hok.fresh (Nat.le_refl _))⟩
  · exact ⟨h₁.1, F.args_object_init_2 obj _, object_init_meets F.called_tuple.init.lookup F.called_tuple.made (by decide) X.prog X.w X.A.in1 _ s₁ ⟨h₁.1, rfl, h₁.2⟩⟩
end
end Cv

/-! part B17 -/
set_option maxRecDepth 100000
set_option maxHeartbeats 4000000
namespace Cv
open PySem PySem.Spec PyProof.Rows L2
open PySem.W (Frag)
/-! ### l[::-1], l a list -/
theorem pick_back (xs : Array Value) : slicePick xs none none (some (-1)) = xs.toList.reverse.toArray := by
  rw [← pick_rev]
  unfold slicePick
  have e1 : sliceBounds none none (some (-1)) xs.size = ((xs.size : Int) - 1, -1, -1) := rfl
  rw [e1]
  show ((sliceRange ((xs.size : Int) - 1) (-1) (-1)).filterMap (xs[·]?)).toArray = _
  unfold sliceRange
  rw [if_neg (by decide)]
  have ec : (if (xs.size : Int) - 1 > -1 then ((xs.size : Int) - 1 - (-1) - (-1) - 1) / (-(-1)) else 0).toNat = xs.size := by
    by_cases h : (xs.size : Int) - 1 > -1
    · rw [if_pos h]
      have : ((xs.size : Int) - 1 - (-1) - (-1) - 1) / (-(-1)) = (xs.size : Int) := by
        show ((xs.size : Int) - 1 - (-1) - (-1) - 1) / 1 = _
        rw [Int.ediv_one]
        omega
      rw [this]
      omega
    · rw [if_neg h]
      omega
  dsimp only
  rw [ec, List.filterMap_map]
  congr 2
  funext k
  show xs[(((xs.size : Int) - 1) + (-1) * (k : Int)).toNat]? = xs[(((xs.size : Int) - 1) + (k : Int) * (-1)).toNat]?
  rw [Int.mul_comm]
section
variable {X : Cx}
def tRevL (K : Frag) (te : TE) : TE := fun σ H Q => te σ H fun x H1 => ∃ a xs, x = .ref a ∧ SqL K H1 a xs ∧ ∀ p, H1 p = none → Q (.ref p) (upd H1 p (.lst xs.reverse))
theorem pe_revL {e : Expr} {te : TE} {k : Nat} {p1 p2 p3 pos : Pos} (he : PE X e te) : PE X (.Subscript e (.Slice none none (some (.UnaryOp .USub (.Constant (.int 1) k p1) p2)) p3) pos) (tRevL X.K te) := by
  refine ⟨fun pins s σ H Q I h => ?_⟩
  refine Subscript_ (thn (he.run pins s σ H _ I h) fun v s1 ⟨x, H1, I1, r1, q1⟩ => ?_)
  obtain ⟨a, xs, rfl, hx, q⟩ := q1
  cases r1
  have one : PO X (some (.UnaryOp .USub (.Constant (.int 1) k p1) p2)) (tPart (tUn (rU fun i => .int (-i)) (tC (.int 1)))) := po_some (pe_un un_neg pe_int)
  refine wpAny_Slice (thn (po_none.run pins s1 σ H1 (fun o H2 => o = none ∧ H2 = H1) I1 ⟨rfl, rfl⟩) fun vl s2 ⟨l, H2, I2, pl, el, e2⟩ => ?_)
  subst el e2
  refine thn (po_none.run pins s2 σ H2 (fun o H3 => o = none ∧ H3 = H2) I2 ⟨rfl, rfl⟩) fun vu s3 ⟨u, H3, I3, pu, eu, e3⟩ => ?_
  subst eu e3
  refine thn (one.run pins s3 σ H3 (fun o H4 => o = some (-1) ∧ H4 = H3) I3 ⟨1, rfl, -1, rfl, rfl, rfl⟩) fun vs s4 ⟨o, H4, I4, ps, eo, e4⟩ => ?_
  subst eo e4
  have I5 : Inv X pins σ H4 { s4 with heap := s4.heap.push { cls := .type "slice", data := .fields #[vl, vu, vs] } } := I4.kept (t' := s4.toks) fun b ob q => Heap.get?_push_of_some _ q
  obtain ⟨its, r, ht, hz⟩ := I5.list hx
  have hlen := r.length
  show wpAny (model X.prog X.w) X.A (subscriptTail e (.Slice none none (some (.UnaryOp .USub (.Constant (.int 1) k p1) p2)) p3) (.ref a) (.ref s4.heap.objs.size)) (EP X pins σ Q) X.xe { s4 with heap := s4.heap.push { cls := .type "slice", data := .fields #[vl, vu, vs] } }
  refine tail_any (ops := [.ref a, .ref s4.heap.objs.size]) ht.isList.typeIs (slot_list_getitem.lookup) ?_ (by with_unfolding_all rfl)
  refine wpAny_getItem_list_slice (st := some (-1)) ht.isList (Heap.IsSliceOf.new _ vl vu vs) pl pu ps (by decide) ?_ (by rw [List.size_toArray, ← hlen]; exact hz)
  rw [pick_back]
  refine ⟨.ref _, _, I5.laid (t' := s4.toks) (o := .lst xs.reverse) (fun b ob q => Heap.get?_push_of_some _ q) (Nat.le_refl _) ?_, rfl, q _ (I5.hok.fresh (Nat.le_refl _))⟩
  exact ⟨by rw [List.length_reverse]; exact hz, _, 0, r.reverse, Heap.get?_push_size _ rfl⟩
/-! ### a text times a number -/
def repS (x : Str) (n : Int) : Str := ⟨(List.replicate n.toNat x.cps).foldl (· ++ ·) #[]⟩
theorem rep_size (a : Array Nat) : ∀ (m : Nat) (b : Array Nat), ((List.replicate m a).foldl (· ++ ·) b).size = b.size + m * a.size
  | 0, b => by
    show b.size = b.size + 0 * a.size
    omega
  | m + 1, b => by
    show ((List.replicate m a).foldl (· ++ ·) (b ++ a)).size = _
    rw [rep_size a m, Array.size_append, Nat.succ_mul]
    omega
theorem repS_len (x : Str) (n : Int) : (repS x n).length = n.toNat * x.length := by
  show ((List.replicate n.toNat x.cps).foldl (· ++ ·) #[]).size = _
  rw [rep_size]
  show 0 + _ = _
  rw [Nat.zero_add]
  rfl
theorem rep_mem (a : Array Nat) (c : Nat) : ∀ (m : Nat) (b : Array Nat), c ∈ ((List.replicate m a).foldl (· ++ ·) b).toList → c ∈ b.toList ∨ c ∈ a.toList
  | 0, b, h => .inl h
  | m + 1, b, h => by
    have h2 : c ∈ ((List.replicate m a).foldl (· ++ ·) (b ++ a)).toList := h
    rcases rep_mem a c m _ h2 with q | q
    · rw [Array.toList_append] at q
      exact List.mem_append.mp q
    · exact .inr q
theorem repS_mem {x : Str} {n : Int} {c : Nat} (h : c ∈ (repS x n).cps.toList) : c ∈ x.cps.toList := by
  rcases rep_mem x.cps c n.toNat #[] h with q | q
  · simp at q
  · exact q
def rMulS : R2 := fun x y H Q => ∃ (z : Str) (n : Int), x = .str z ∧ y = .int n ∧ 2 ≤ n ∧ n ≤ 100000 ∧ 1 ≤ z.length ∧ z.length * n.toNat ≤ 100000 ∧ Q (.str (repS z n)) H
theorem op_mulS : OpR X (binaryOp .Mult) rMulS := by
  intro pins s σ H x y v u Q I rx ry h
  obtain ⟨z, n, rfl, rfl, n2, n9, z1, z9, q⟩ := h
  obtain ⟨t, rfl⟩ := rx
  obtain ⟨t2, rfl⟩ := ry
  have h1 : (n == 1 || z.length == 0) = false := by
    rw [show (n == 1) = false from beq_eq_false_iff_ne.mpr (by omega), show (z.length == 0) = false from beq_eq_false_iff_ne.mpr (by omega)]
    rfl
  have zn : (z.length : Int) * n ≤ 100000 := by
    have e : (z.length : Int) * n = ((z.length * n.toNat : Nat) : Int) := by
      rw [Int.natCast_mul, Int.toNat_of_nonneg (by omega)]
    rw [e]
    omega
  have a1 : ¬ n < -(2 ^ 63 : Int) := by omega
  have a2 : ¬ n ≥ 2 ^ 63 := by omega
  refine PySem.P.mul_str (by rw [decide_eq_false a1, decide_eq_false a2]; rfl) (fun _ _ => ?_) (fun _ _ => ?_) ?_
  · exact Int.not_lt.mpr (Int.le_ediv_of_mul_le (by omega) (Int.le_trans zn (by decide)))
  · show decide (z.length * n.toNat > sizeLine) = false
    exact decide_eq_false (by rw [sizeLine_eq]; omega)
  · rw [if_neg (by omega), if_neg (by rw [h1]; exact Bool.false_ne_true)]
    refine ⟨?_, ?_⟩
    · show (repS z n).length ≤ sizeLine
      rw [repS_len, sizeLine_eq, Nat.mul_comm]
      omega
    · exact ⟨.str (repS z n), H, I.tok _, ⟨_, rfl⟩, q⟩
end
end Cv

/-! part B18 -/
set_option maxRecDepth 100000
set_option maxHeartbeats 4000000
namespace Cv
open PySem PySem.Spec PyProof.Rows L2
open PySem.W (Frag)
/-! ### != of nested dicts that are equal -/
section
variable {prog : Program} {w : World} {KT : Type} [DecidableEq KT] {knd : KeyKind prog w KT} {A : Around} {s : Shared}
theorem ne_dicts {a b : Addr} {ka kb : List (KT × Value)} {r : Bool} (ha : (a == sysModules) = false) (hb : (b == sysModules) = false)
    (da : s.heap.DictOf knd a ka) (db : s.heap.DictOf knd b kb) (hu : A.units < cLine) (hits : ka.length = kb.length → PySem.W.KeqHitsP prog w A.in1 s kb ka r) (E Q : Value → Shared → Prop) (h : Q (.bool (!(ka.length == kb.length && r))) s) : wpAny (model prog w) A (compareOp .NotEq (.ref a) (.ref b)) Q E s := by
  refine wpAny_richCompare_same_room (op := .NotEq) da.typeIs db.typeIs PySem.F.slot_dict_ne (wpAny_call_entry PySem.F.slot_dict_ne da.typeIs PySem.F.entry_dict_ne ?_ (PySem.F.args_dict_ne_2 _ _)) hu
  show wpAny _ _ (Builtin.Dict.dictSlotArgs "__ne__" ⟨[.ref a, .ref b], []⟩ >>= _) _ _ s
  refine wpAny_bind ?_
  unfold Builtin.Dict.dictSlotArgs
  refine wpAny_bind (wpAny_notOrdered_dict da.typeIs ?_)
  show wpAny _ _ (pure (Value.ref a, Value.ref b)) _ _ s
  refine wpAny_pure ?_
  refine wpAny_bind (wpAny_isInstance (T := "dict") db.typeIs PySem.F.sub_dict_dict ?_)
  simp only [Bool.not_true, Bool.false_eq_true, if_false]
  refine wpAny_bind (wpAny_pure (wpAny_bind (wpAny_pure ?_)))
  refine wpAny_bind (PySem.W.samePairsP ha hb da db hits ?_)
  refine wpAny_pure ⟨_, rfl, ?_, ?_⟩
  · exact fun x => nomatch x
  · simpa using h
end
section
variable {X : Cx}
def EqD (K : Frag) (H : Hp) (n : Nat) (x y : V) : Prop := ∃ a b ks ls, x = .ref a ∧ y = .ref b ∧ H a = some (.dK ks) ∧ H b = some (.dK ls) ∧ ks.length = ls.length ∧ ∀ p ∈ ks, ∃ u, valV ls p.1 = some u ∧ EqV K H n p.2 u
def rNeV (K : Frag) : R2 := fun x y H Q => ∃ n, n ≤ 60 ∧ EqD K H n x y ∧ Q (.bl false) H
theorem op_neV (hu : X.A.units + 64 < cLine) : OpR X (compareOp .NotEq) (rNeV X.K) := by
  intro pins s σ H x y v u Q I rx ry h
  obtain ⟨n, hn, ⟨a, b, ks, ls, rfl, rfl, ha, hb, hl, hp⟩, q⟩ := h
  obtain rfl : v = Value.ref a := rx
  obtain rfl : u = Value.ref b := ry
  obtain ⟨_, ya, va, ra, da⟩ := (show ObjOk X.prog X.w H s.heap a (.dK ks) from I.hok a _ ha)
  obtain ⟨_, yb, vb, rb, db⟩ := (show ObjOk X.prog X.w H s.heap b (.dK ls) from I.hok b _ hb)
  have e : va.length = vb.length := by rw [← ra.length, ← rb.length]; exact hl
  refine ne_dicts (knd := mixKind X.prog X.w) (r := true) ya yb da db (by omega) (fun _ => hits_run (F := EqV X.K H n) (fun x y v u f r1 r2 => eqV_run I n X.A.in1 (by show X.A.units + 1 + n < cLine; omega) x y v u f r1 r2) rb ra hp) _ _ ?_
  rw [show (!(va.length == vb.length && true)) = false from by rw [e]; simp]
  exact ⟨.bl false, H, I, rfl, q⟩
end
end Cv

/-! part K11T -/
set_option maxRecDepth 100000
set_option maxHeartbeats 4000000
namespace Cv
open PySem PySem.Spec PyProof.Rows L2
def topS (i : Nat) : Stmt := PySem.Challenge.pw_copyover_k11_whole_contents_and_lists.main.body.getD i (.Pass ⟨0, 0, 0, 0⟩)
abbrev sName : Stmt := topS 10
abbrev sFolders : Stmt := topS 11
abbrev sOneOf : Stmt := topS 12
abbrev sAreDifferent : Stmt := topS 13
abbrev sSomeOf : Stmt := topS 14
abbrev sHasNames : Stmt := topS 15
abbrev sChkF : Stmt := topS 16
abbrev sChkN : Stmt := topS 17
abbrev sCopy : Stmt := topS 21
abbrev sScript : Stmt := topS 22
abbrev sChkS : Stmt := topS 23
abbrev sJoin : Stmt := topS 24
abbrev sFstL : Stmt := topS 25
abbrev sBehind : Stmt := topS 26
abbrev sLists : Stmt := topS 27
abbrev sList : Stmt := topS 28
abbrev sHeads : Stmt := topS 29
abbrev sPath : Stmt := topS 34
abbrev sFiles : Stmt := topS 35
abbrev sCont : Stmt := topS 36
abbrev sCheckContents : Stmt := topS 37
abbrev sSrtF : Stmt := topS 38
abbrev sRun : Stmt := topS 39
abbrev sWin : Stmt := topS 40
abbrev sJar : Stmt := topS 42
abbrev sDip : Stmt := topS 43
abbrev sNames : Stmt := topS 44
abbrev sPlan : Stmt := topS 45
abbrev sLPath : Stmt := topS 46
abbrev sLCont : Stmt := topS 47
abbrev sFilesR : Stmt := topS 48
abbrev sListsR : Stmt := topS 49
abbrev sLaw : Stmt := topS 50
/-- the built-in names that the text leaves alone -/
structure Bl (mg : Str → Option Value) : Prop where
  len : mg "len" = none
  list : mg "list" = none
  tuple : mg "tuple" = none
  range : mg "range" = none
  abs : mg "abs" = none
  max : mg "max" = none
  min : mg "min" = none
  int : mg "int" = none
  isi : mg "isinstance" = none
  str : mg "str" = none
  all : mg "all" = none
  set : mg "set" = none
  sorted : mg "sorted" = none
  dict : mg "dict" = none
  zip : mg "zip" = none
end Cv

/-! part K11A -/
set_option maxRecDepth 100000
set_option maxHeartbeats 4000000
namespace Cv
open PySem PySem.Spec PyProof.Rows L2
/-! ### draws -/
/-- what a jar holds: the digits left, the seed, the count (at most n) -/
def JarL (l : List V) (n : Nat) : Prop := ∃ x y z : Int, l = [.int x, .int y, .int z] ∧ 0 ≤ x ∧ 0 ≤ y ∧ y < 10 ^ 39 ∧ 0 ≤ z ∧ z ≤ n
def spDip : Sp := fun vs H Q _ => ∃ (j : Addr) (l : List V) (m : Int) (n : Nat), vs = [.ref j, .int m] ∧ H j = some (.lst l) ∧ JarL l n ∧ n ≤ 10 ^ 9 ∧ 1 ≤ m ∧ m < 2 ^ 70 ∧
  ∀ (r : Int) (l' : List V), 0 ≤ r → r < m → JarL l' (n + 1) → Q (.int r) (upd H j (.lst l'))
section
variable {P : Program} {w : World} {K : PySem.W.Frag} {mg : Str → Option Value} {base : Heap}
theorem scD : FnScope ["jar", "many", "digit", "mixed"] ["jar", "many"] (defScope sDip) := ⟨rfl, rfl, rfl, by decide +kernel, rfl, by decide +kernel, by decide +kernel⟩
theorem sqOf {H : Hp} {a : Addr} {xs : List V} (h : H a = some (.lst xs)) : SqL K H a xs := .inl (.inl h)
theorem stOf {H : Hp} {a : Addr} {xs : List V} (h : H a = some (.tup xs)) : SqT K H a xs := .inl (.inl h)
theorem p41 : (0 : Int) < 10 ^ (41 : Int).toNat + 37 := by decide
theorem p40 : (0 : Int) < 10 ^ (40 : Int).toNat + 121 := by decide
theorem p6 : (0 : Int) < 10 ^ (6 : Int).toNat ∧ (10 : Int) ^ (6 : Int).toNat < 1073741824 := by decide
theorem e41 : (10 : Int) ^ (41 : Int).toNat + 37 = 100000000000000000000000000000000000000037 := by decide
theorem e40 : (10 : Int) ^ (40 : Int).toNat + 121 = 10000000000000000000000000000000000000121 := by decide
theorem bitsLe {i : Int} {n k : Nat} (h0 : 0 ≤ i) (h : i < 2 ^ n) (hk : n * k ≤ 2 ^ 27) (hk0 : 0 ≤ (k : Int)) : 0 ≤ (k : Int) ∧ (Builtin.Int.intBits i : Int) * (k : Int) ≤ 2 ^ 27 := by
  have h1 : i.natAbs < 2 ^ n := by
    have e : ((2 : Int) ^ n) = ((2 ^ n : Nat) : Int) := by simp
    omega
  have h2 := bits_of h1
  refine ⟨hk0, ?_⟩
  have h3 : Builtin.Int.intBits i * k ≤ 2 ^ 27 := Nat.le_trans (Nat.mul_le_mul_right k h2) hk
  have h4 : ((Builtin.Int.intBits i * k : Nat) : Int) ≤ ((2 ^ 27 : Nat) : Int) := by exact_mod_cast h3
  simpa using h4
theorem bitsMix {t M c : Int} (hM : 0 < M) (hM2 : M ≤ 2 ^ 139) (hc : 0 ≤ c) (hc2 : c < 2 ^ 100) : 0 ≤ (2 : Int) ∧ (Builtin.Int.intBits (t % M + c) : Int) * 2 ≤ 2 ^ 27 := by
  have a1 := Int.emod_nonneg t (show M ≠ 0 by omega)
  have a2 := Int.emod_lt_of_pos t hM
  exact bitsLe (n := 140) (k := 2) (by omega) (by omega) (by decide) (by decide)
theorem ok_dip {f : Addr} {fd : FuncData} (F : Fun K "_law_dip" "_law_dip" sDip f fd) : FnOk P w K mg base CX0 1 f fd ["jar", "many"] spDip := by
  refine F.ok scD (fun vs H Q E h => ?_) (fun cdv A outer s H vs Q E hr h => ?_)
  · obtain ⟨j, l, m, n, rfl, _⟩ := h
    rfl
  · obtain ⟨j, l, m, n, rfl, hj, ⟨x, y, z, rfl, hx, hy, hy2, hz, hz2⟩, hn, hm, hm2, q⟩ := h
    refine ⟨_, pss_cons (ps_if (pt_cmpR op_gt (pe_ix ix_list (pv 0) pe_int (fun _ _ => rfl)) pe_int (nomark _))
        (pss_cons (ps_set (i := 2) scD.nd rfl (.inl rfl) (pe_op op_mod (pe_ix ix_list (pv 0) pe_int (fun _ _ => rfl)) (pv 1)))
        (pss_cons (ps_asg (pe_op op_fdivW (pe_ix ix_list (pv 0) pe_int (fun _ _ => rfl)) (pv 1)) (pg_sub (pv 0) pe_int set_list))
        (pss_one (ps_ret (pv 2))))) pss_nil)
      (pss_cons (ps_asg (pe_op op_add (pe_ix ix_list (pv 0) pe_int (fun _ _ => rfl)) pe_int) (pg_sub (pv 0) pe_int set_list))
      (pss_cons (ps_set (i := 3) scD.nd rfl (.inl rfl) (pe_op op_mod (pe_op op_powB (pe_op op_add (pe_ix ix_list (pv 0) pe_int (fun _ _ => rfl)) (pe_op op_mul pe_int (pe_ix ix_list (pv 0) pe_int (fun _ _ => rfl)))) pe_int) (pe_op op_add (pe_op op_pow pe_int pe_int) pe_int)))
      (pss_cons (ps_set (i := 3) scD.nd rfl (.inl rfl) (pe_op op_mod (pe_op op_powB (pe_op op_add (pv 3) (pe_op op_mul pe_int (pe_ix ix_list (pv 0) pe_int (fun _ _ => rfl)))) pe_int) (pe_op op_add (pe_op op_pow pe_int pe_int) pe_int)))
      (pss_one (ps_ret (pe_op op_mod (pe_op op_fdiv (pv 3) (pe_op op_pow pe_int pe_int)) (pv 1))))))), ?_⟩
    have S0 := sqOf (K := K) hj
    -- jar[0] > 0
    refine ⟨_, rfl, j, _, 0, _, rfl, rfl, S0, rfl, x, 0, rfl, rfl, _, rfl, ite2 (fun hgt => ?_) (fun hng => ?_)⟩
    · have hgt' : 0 < x := of_decide_eq_true hgt
      have hd : CDivW x m := wide_div (by omega) (b := 70) (by omega) (by decide) (by decide)
      refine ⟨_, rfl, j, _, 0, _, rfl, rfl, S0, rfl, _, rfl, x, m, rfl, rfl, (show (0 : Int) < m by omega), ?_⟩
      refine ⟨_, rfl, j, _, 0, _, rfl, rfl, S0, rfl, _, rfl, x, m, rfl, rfl, hd, ?_⟩
      refine ⟨_, rfl, j, _, 0, 0, rfl, rfl, hj, rfl, ?_⟩
      refine ⟨_, rfl, q _ _ (Int.emod_nonneg x (by omega)) (Int.emod_lt_of_pos x (by omega)) ⟨x / m, y, z, rfl, Int.ediv_nonneg hx (by omega), hy, hy2, hz, by omega⟩⟩
    · -- jar[2] = jar[2] + 1
      refine ⟨_, rfl, j, _, 2, _, rfl, rfl, S0, rfl, z, 1, rfl, rfl, ?_⟩
      refine ⟨_, rfl, j, _, 2, 2, rfl, rfl, hj, rfl, ?_⟩
      have S1 := sqOf (K := K) (upd_same (H := H) (a := j) (o := .lst [.int x, .int y, .int (z + 1)]))
      -- mixed, twice
      refine ⟨_, rfl, j, _, 1, _, rfl, rfl, S1, rfl, _, rfl, j, _, 2, _, rfl, rfl, S1, rfl, 675248027, z + 1, rfl, rfl, .inl ⟨by decide, by decide⟩, y, _, rfl, rfl, ?_⟩
      refine ⟨_, 3, rfl, rfl, bitsLe (n := 131) (k := 3) (by omega) (by omega) (by decide) (by decide), ?_⟩
      refine ⟨10, 41, rfl, rfl, ⟨by decide, by decide, by decide⟩, _, 37, rfl, rfl, _, _, rfl, rfl, p41, ?_⟩
      refine ⟨_, rfl, _, rfl, j, _, 2, _, rfl, rfl, S1, rfl, 314606891, z + 1, rfl, rfl, .inl ⟨by decide, by decide⟩, _, _, rfl, rfl, ?_⟩
      refine ⟨_, 2, rfl, rfl, bitsMix p41 (by decide) (by omega) (by omega), ?_⟩
      refine ⟨10, 40, rfl, rfl, ⟨by decide, by decide, by decide⟩, _, 121, rfl, rfl, _, _, rfl, rfl, p40, ?_⟩
      refine ⟨_, rfl, 10, 6, rfl, rfl, ⟨by decide, by decide, by decide⟩, _, _, rfl, rfl, p6, _, rfl, _, m, rfl, rfl, (show (0 : Int) < m by omega), ?_⟩
      exact q _ _ (Int.emod_nonneg _ (by omega)) (Int.emod_lt_of_pos _ (by omega)) ⟨x, y, z + 1, rfl, hx, hy, hy2, by omega, by omega⟩
end
end Cv


/-! part K11C -/
set_option maxRecDepth 100000
set_option maxHeartbeats 4000000
namespace Cv
open PySem PySem.Spec PyProof.Rows L2
/-! ### names -/
def IsNm (y : Str) : Prop := 1 ≤ y.length ∧ y.length ≤ 8 ∧ ∀ c ∈ y.cps.toList, 97 ≤ c ∧ c ≤ 122
def Last (y : Str) : Prop := ∃ c, y.cps.toList.getLast? = some c ∧ c ≤ 116
def Names (ys : List Str) (m : Int) : Prop := (ys.length : Int) = m ∧ ys.Nodup ∧ (∀ y ∈ ys, IsNm y) ∧ ∀ y ∈ ys, Last y
def spNames : Sp := fun vs H Q _ => ∃ (j : Addr) (l : List V) (m : Int) (n : Nat), vs = [.ref j, .int m] ∧ H j = some (.lst l) ∧ JarL l n ∧ n ≤ 10 ^ 8 ∧ 1 ≤ m ∧ m ≤ 20 ∧
  ∀ (p : Addr) (ys : List Str) (l' : List V) (H' : Hp), Names ys m → H' p = some (.tup (ys.map V.str)) → H' j = some (.lst l') → JarL l' (n + 200) → Eff j H H' → Q (.ref p) H'
/-- one sign -/
def sg (c : Nat) : Str := ⟨#[c]⟩
theorem JarL.mono {l : List V} {n n' : Nat} (h : JarL l n) (hn : n ≤ n') : JarL l n' := by
  obtain ⟨x, y, z, e, a, b, c, d, f⟩ := h
  exact ⟨x, y, z, e, a, b, c, d, by omega⟩
theorem erase_map {α β : Type} (f : α → β) : ∀ (l : List α) (k : Nat), (l.map f).eraseIdx k = (l.eraseIdx k).map f
  | [], _ => rfl
  | _ :: _, 0 => rfl
  | a :: l, k + 1 => by
    show f a :: (l.map f).eraseIdx k = f a :: (l.eraseIdx k).map f
    rw [erase_map f l k]
theorem erase_out {α : Type} : ∀ (l : List α) (k : Nat) (a : α), l.Nodup → l[k]? = some a → a ∉ l.eraseIdx k
  | [], _, _, _, h => by simp at h
  | b :: l, 0, a, nd, h => by
    have e : b = a := Option.some.inj h
    subst e
    exact (List.nodup_cons.mp nd).1
  | b :: l, k + 1, a, nd, h => by
    have h' : l[k]? = some a := h
    intro m
    rcases List.mem_cons.mp (show a ∈ b :: l.eraseIdx k from m) with e | m
    · subst e
      exact (List.nodup_cons.mp nd).1 (List.mem_of_getElem? h')
    · exact erase_out l k a (List.nodup_cons.mp nd).2 h' m
theorem erase_len {α : Type} : ∀ (l : List α) (k : Nat), k < l.length → (l.eraseIdx k).length + 1 = l.length
  | [], _, h => by simp at h
  | _ :: l, 0, _ => rfl
  | _ :: l, k + 1, h => by
    show (l.eraseIdx k).length + 1 + 1 = l.length + 1
    rw [erase_len l k (by simpa using h)]
theorem pick4 {r : Int} (h0 : 0 ≤ r) (h : r < 4) : ∃ s : Int, atI [V.int 0, V.int 0, V.int 1, V.int 7] r = some (.int s) ∧ 0 ≤ s ∧ s ≤ 7 := by
  have h4 : r = 0 ∨ r = 1 ∨ r = 2 ∨ r = 3 := by omega
  rcases h4 with rfl | rfl | rfl | rfl
  · exact ⟨0, rfl, by decide, by decide⟩
  · exact ⟨0, rfl, by decide, by decide⟩
  · exact ⟨1, rfl, by decide, by decide⟩
  · exact ⟨7, rfl, by decide, by decide⟩
theorem abzC : (Str.ofString "abz").cps.toList = [97, 98, 122] := by decide +kernel
theorem pick3 {r : Int} (h0 : 0 ≤ r) (h : r < 3) : ∃ c : Nat, atI (Str.ofString "abz").cps.toList r = some c ∧ 97 ≤ c ∧ c ≤ 122 := by
  rw [abzC]
  have h4 : r = 0 ∨ r = 1 ∨ r = 2 := by omega
  rcases h4 with rfl | rfl | rfl
  · exact ⟨97, rfl, by decide, by decide⟩
  · exact ⟨98, rfl, by decide, by decide⟩
  · exact ⟨122, rfl, by decide, by decide⟩
theorem atI_in {α : Type} {xs : List α} {i : Int} (h0 : 0 ≤ i) (h : i < xs.length) : ∃ (m : Nat) (x : α), i = (m : Int) ∧ xs[m]? = some x ∧ atI xs i = some x := by
  obtain ⟨m, rfl⟩ : ∃ m : Nat, i = (m : Int) := ⟨i.toNat, by omega⟩
  have hm : m < xs.length := by omega
  exact ⟨m, xs[m], rfl, List.getElem?_eq_getElem hm, atI_nat (List.getElem?_eq_getElem hm)⟩
theorem seqIx_nat {m n : Nat} (h : m < n) : seqIndex? (m : Int) n = some m := by
  unfold seqIndex?
  simp only []
  split <;> first | omega | (simp; omega) | simp_all
/-- the text of letters, glued -/
theorem glue_ok {cs : List Nat} (hc : ∀ c ∈ cs, 97 ≤ c ∧ c ≤ 122) : (Txt.join (Str.ofString "") (cs.map sg)).length = cs.length ∧ ∀ c ∈ (Txt.join (Str.ofString "") (cs.map sg)).cps.toList, 97 ≤ c ∧ c ≤ 122 := by
  constructor
  · rw [PySem.W.KT.join_ones]
    · rw [List.length_map]
    · intro a ha
      obtain ⟨c, _, rfl⟩ := List.mem_map.mp ha
      rfl
  · intro c h
    have e : Txt.join (Str.ofString "") (cs.map sg) = Str.join (Str.ofString "") (cs.map sg) := by
      have := PyProof.Rows.join_plain_closes (Str.ofString "") (cs.map sg)
      simpa using this
    rw [e, PyProof.Rows.mem_join] at h
    rcases h with ⟨t, ht, hct⟩ | ⟨_, hct⟩
    · obtain ⟨d, hd, rfl⟩ := List.mem_map.mp ht
      have : c = d := by simpa [sg] using hct
      subst this
      exact hc c hd
    · rw [show (Str.ofString "").cps.toList = [] by decide +kernel] at hct
      exact nomatch hct
/-- a front and a letter -/
theorem nm_of {x : Str} {c : Nat} (hx : x.length ≤ 7) (hl : ∀ c ∈ x.cps.toList, 97 ≤ c ∧ c ≤ 122) (hc : 97 ≤ c ∧ c ≤ 122) : IsNm (x ++ sg c) ∧ (x ++ sg c).cps.toList.getLast? = some c := by
  have e : (x ++ sg c).cps.toList = x.cps.toList ++ [c] := by
    rw [Str.cps_append, Array.toList_append]
    rfl
  have el : (x ++ sg c).length = x.length + 1 := by
    rw [strLen_append]
    rfl
  refine ⟨⟨by omega, by omega, fun d hd => ?_⟩, by rw [e]; simp⟩
  rw [e] at hd
  rcases List.mem_append.mp hd with h | h
  · exact hl d h
  · have : d = c := by simpa using h
    subst this
    exact hc
end Cv


/-! part K11E -/
set_option maxRecDepth 100000
set_option maxHeartbeats 4000000
namespace Cv
open PySem PySem.Spec PyProof.Rows L2
/-! ### plans -/
abbrev Cp := Str × Str × Str
def cpV (c : Cp) : List V := [.str c.1, .str c.2.1, .str c.2.2]
def cpD (c : Cp) : PyData := .tuple [.str c.1, .str c.2.1, .str c.2.2]
def planD (cs : List Cp) : PyData := .tuple (cs.map cpD)
def Word (x : Str) : Prop := x = Str.ofString "over" ∨ x = Str.ofString "skip"
structure CpOk (ys : List Str) (c : Cp) : Prop where
  w : Word c.1
  a : c.2.1 ∈ ys
  b : c.2.2 ∈ ys
  n : c.2.1 ≠ c.2.2
structure Plan (cs : List Cp) (ys : List Str) (mo : Int) : Prop where
  l : (cs.length : Int) ≤ mo
  c : ∀ c ∈ cs, CpOk ys c
  e : ys.length ≤ 1 → cs = []
def CpAt (H : Hp) (p : Addr) (c : Cp) : Prop := H p = some (.tup (cpV c))
def KeepT (H H' : Hp) : Prop := ∀ b xs, H b = some (.tup xs) → H' b = some (.tup xs)
theorem KeepT.trans {H H1 H2 : Hp} (a : KeepT H H1) (b : KeepT H1 H2) : KeepT H H2 := fun x o e => b x o (a x o e)
theorem KeepT.eff {H H' : Hp} {j : Addr} {l : List V} (e : Eff j H H') (hj : H j = some (.lst l)) : KeepT H H' := fun b xs h => e b _ (fun z => by
  subst z
  rw [hj] at h
  cases h) h
theorem KeepT.updL {H H' : Hp} {j : Addr} {l l' : List V} (k : KeepT H H') (hj : H' j = some (.lst l)) : KeepT H (upd H' j (.lst l')) := fun b xs h => by
  have h' := k b xs h
  rw [upd_ne (fun z => by
    subst z
    rw [hj] at h'
    cases h')]
  exact h'
theorem KeepT.updN {H H' : Hp} {p : Addr} {o : HO} (k : KeepT H H') (hp : H' p = none) : KeepT H (upd H' p o) := fun b xs h => (upd_ne (ne_of_none (k b xs h) hp)).trans (k b xs h)
theorem paired_snoc {α β : Type} {R : α → β → Prop} : ∀ {l : List α} {m : List β} {a : α} {b : β}, Paired R l m → R a b → Paired R (l ++ [a]) (m ++ [b])
  | _, _, _, _, .nil, r => .cons r .nil
  | _, _, _, _, .cons h t, r => .cons h (paired_snoc t r)
theorem str_dx {K : PySem.W.Frag} {H : Hp} {j : Addr} (c : Cp) : DxAll K H j (cpV c) [.str c.1, .str c.2.1, .str c.2.2] := .cons (.str _) (.cons (.str _) (.cons (.str _) .nil))
theorem plan_dx {K : PySem.W.Frag} {H : Hp} {j : Addr} {l : List V} (hj : H j = some (.lst l)) : ∀ {ps : List Addr} {cs : List Cp}, Paired (CpAt H) ps cs → DxAll K H j (ps.map V.ref) (cs.map cpD)
  | _, _, .nil => .nil
  | _, _, .cons (a := p) (b := c) h t => .cons (.tup (ne_of (show H p = some (.tup (cpV c)) from h) hj (fun z => nomatch z)) (.inl (.inl h)) (str_dx c)) (plan_dx hj t)
def spPlan (K : PySem.W.Frag) : Sp := fun vs H Q _ => ∃ (j a : Addr) (l : List V) (mo : Int) (n : Nat) (ys : List Str), vs = [.ref j, .ref a, .int mo] ∧ H j = some (.lst l) ∧ JarL l n ∧ n ≤ 10 ^ 8 ∧
  SqT K H a (ys.map V.str) ∧ a ≠ j ∧ 1 ≤ ys.length ∧ ys.length ≤ 20 ∧ ys.Nodup ∧ 0 ≤ mo ∧ mo ≤ 200 ∧
  ∀ (p : Addr) (cs : List Cp) (l' : List V) (H' : Hp), Plan cs ys mo → Dx K H' j (.ref p) (planD cs) → H' j = some (.lst l') → JarL l' (n + 1700) → Eff j H H' → Q (.ref p) H'
theorem pickW {v : Int} (h0 : 0 ≤ v) (h : v < 2) : ∃ x : Str, atI [V.str (Str.ofString "over"), V.str (Str.ofString "skip")] v = some (.str x) ∧ Word x := by
  have h2 : v = 0 ∨ v = 1 := by omega
  rcases h2 with rfl | rfl
  · exact ⟨_, rfl, .inl rfl⟩
  · exact ⟨_, rfl, .inr rfl⟩
theorem pick012 {w d b : Int} (w0 : 0 ≤ w) (w1 : w < 3) (d0 : 0 ≤ d) (d1 : d < 2) (b0 : 0 ≤ b) (b1 : b < 2) : ∃ v : Int, atI [V.int d, V.int 0, V.int b] w = some (.int v) ∧ 0 ≤ v ∧ v < 2 := by
  have h3 : w = 0 ∨ w = 1 ∨ w = 2 := by omega
  rcases h3 with rfl | rfl | rfl
  · exact ⟨_, rfl, d0, d1⟩
  · exact ⟨_, rfl, by decide, by decide⟩
  · exact ⟨_, rfl, b0, b1⟩
theorem next_ne {o M : Int} (h0 : 0 ≤ o) (h1 : o < M) (h2 : 2 ≤ M) : 0 ≤ (o + 1) % M ∧ (o + 1) % M < M ∧ (o + 1) % M ≠ o := by
  refine ⟨Int.emod_nonneg _ (by omega), Int.emod_lt_of_pos _ (by omega), ?_⟩
  by_cases h : o + 1 < M
  · rw [Int.emod_eq_of_lt (by omega) h]
    omega
  · have e : o + 1 = M := by omega
    rw [e, Int.emod_self]
    omega
theorem atT {ys : List Str} {i : Int} (h0 : 0 ≤ i) (h : i < ys.length) : ∃ y, atI (ys.map V.str) i = some (V.str y) ∧ ys[i.toNat]? = some y := by
  obtain ⟨m, x, e, hx, ha⟩ := atI_in (xs := ys) h0 h
  subst e
  refine ⟨x, atI_nat (by rw [List.getElem?_map, hx]; rfl), by simpa using hx⟩
end Cv


/-! part K11N -/
set_option maxRecDepth 100000
set_option maxHeartbeats 4000000
namespace Cv
open PySem PySem.Spec PyProof.Rows L2
/-! ### sorted texts are one list -/
def leS (a b : Str) : Prop := ltCps b.cps.toList a.cps.toList = false
theorem leS_iff (a b : Str) : leS a b ↔ a.cps.toList ≤ b.cps.toList := by
  unfold leS
  rw [ltCps_eq, decide_eq_false_iff_not]
  exact Iff.rfl
theorem leS_trans {a b c : Str} (h : leS a b) (g : leS b c) : leS a c := by
  rw [leS_iff] at h g ⊢
  exact List.le_trans h g
theorem leS_anti {a b : Str} (h : leS a b) (g : leS b a) : a = b := by
  rw [leS_iff] at h g
  have e := List.le_antisymm h g
  obtain ⟨⟨x⟩⟩ := a
  obtain ⟨⟨y⟩⟩ := b
  have e' : x = y := e
  rw [e']
theorem pair_of_rising : ∀ (p : Str) (l : List Str), risingS p l = true → (p :: l).Pairwise leS
  | p, [], _ => List.pairwise_singleton _ _
  | p, x :: r, h => by
    have h2 : (!ltCps x.cps.toList p.cps.toList && risingS x r) = true := h
    rw [Bool.and_eq_true, Bool.not_eq_true'] at h2
    have ih := pair_of_rising x r h2.2
    refine List.pairwise_cons.mpr ⟨fun y hy => ?_, ih⟩
    rcases List.mem_cons.mp hy with rfl | hy
    · exact h2.1
    · exact leS_trans h2.1 ((List.pairwise_cons.mp ih).1 y hy)
theorem pair_of_sorted : ∀ (l : List Str), sortedS l = true → l.Pairwise leS
  | [], _ => List.Pairwise.nil
  | x :: r, h => pair_of_rising x r h
theorem sorted_one {l m n : List Str} (hl : sortedS l = true) (hm : sortedS m = true) (pl : l.Perm n) (pm : m.Perm n) : l = m :=
  (pl.trans pm.symm).eq_of_pairwise (fun a b _ _ h g => leS_anti h g) (pair_of_sorted l hl) (pair_of_sorted m hm)
/-! ### lists of folders -/
def jb (a b : List Str) : List Str := a ++ b.filter fun y => !decide (y ∈ a)
def upR (R : Str → List Str) (t : Str) (v : List Str) : Str → List Str := fun y => if y = t then v else R y
def stepR (R : Str → List Str) (c : Cp) : Str → List Str := if c.1 = Str.ofString "over" then upR R c.2.2 (jb (R c.2.1) (R c.2.2)) else upR R c.2.2 (jb (R c.2.2) (R c.2.1))
def runR (cs : List Cp) : Str → List Str := cs.foldl stepR fun y => [y]
theorem runR_take {cs : List Cp} {i : Nat} {c : Cp} (h : cs[i]? = some c) : runR (cs.take (i + 1)) = stepR (runR (cs.take i)) c := by
  unfold runR
  rw [List.take_add_one, h, List.foldl_append]
  rfl
theorem mem_jb {a b : List Str} {z : Str} : z ∈ jb a b ↔ z ∈ a ∨ z ∈ b := by
  unfold jb
  rw [List.mem_append, List.mem_filter]
  by_cases h : z ∈ a
  · simp [h]
  · simp [h]
theorem nodup_jb {a b : List Str} (ha : a.Nodup) (hb : b.Nodup) : (jb a b).Nodup := by
  unfold jb
  rw [List.nodup_append]
  refine ⟨ha, hb.sublist List.filter_sublist, fun x hx y hy e => ?_⟩
  have := (List.mem_filter.mp hy).2
  rw [← e, decide_eq_true hx] at this
  exact nomatch this
structure RowOk (ys l : List Str) (y : Str) : Prop where
  nd : l.Nodup
  sub : ∀ z ∈ l, z ∈ ys
  own : y ∈ l
def ROk (ys : List Str) (R : Str → List Str) : Prop := ∀ y ∈ ys, RowOk ys (R y) y
theorem nodup_sub_len : ∀ {l ys : List Str}, l.Nodup → (∀ z ∈ l, z ∈ ys) → l.length ≤ ys.length
  | [], _, _, _ => Nat.zero_le _
  | x :: l, ys, hn, hs => by
    obtain ⟨h1, h2⟩ := List.nodup_cons.mp hn
    have hx : x ∈ ys := hs x List.mem_cons_self
    have ih := nodup_sub_len (ys := ys.erase x) h2 fun z hz => (List.mem_erase_of_ne (fun (e : z = x) => h1 (e ▸ hz))).mpr (hs z (List.mem_cons_of_mem _ hz))
    rw [List.length_erase_of_mem hx] at ih
    have := List.length_pos_of_mem hx
    rw [List.length_cons]
    omega
theorem RowOk.len {ys l : List Str} {y : Str} (h : RowOk ys l y) : l.length ≤ ys.length := nodup_sub_len h.nd h.sub
theorem rok_up {ys : List Str} {R : Str → List Str} {t : Str} {v : List Str} (h : ROk ys R) (hv : RowOk ys v t) : ROk ys (upR R t v) := fun y hy => by
  unfold upR
  by_cases e : y = t
  · rw [if_pos e, e]
    exact hv
  · rw [if_neg e]
    exact h y hy
theorem row_jb {ys a b : List Str} {s t u : Str} (ha : RowOk ys a s) (hb : RowOk ys b t) (hu : u = s ∨ u = t) : RowOk ys (jb a b) u where
  nd := nodup_jb ha.nd hb.nd
  sub := fun z hz => by
    rcases mem_jb.mp hz with h | h
    · exact ha.sub z h
    · exact hb.sub z h
  own := by
    rcases hu with rfl | rfl
    · exact mem_jb.mpr (.inl ha.own)
    · exact mem_jb.mpr (.inr hb.own)
theorem rok_step {ys : List Str} {R : Str → List Str} {c : Cp} (h : ROk ys R) (hc : CpOk ys c) : ROk ys (stepR R c) := by
  unfold stepR
  split
  · exact rok_up h (row_jb (h _ hc.a) (h _ hc.b) (.inr rfl))
  · exact rok_up h (row_jb (h _ hc.b) (h _ hc.a) (.inl rfl))
theorem rok_zero (ys : List Str) : ROk ys fun y => [y] := fun y hy => ⟨by simp, fun z hz => by
  have : z = y := by simpa using hz
  rw [this]
  exact hy, by simp⟩
theorem rok_run {ys : List Str} : ∀ {cs : List Cp}, (∀ c ∈ cs, CpOk ys c) → ROk ys (runR cs) := by
  have key : ∀ (cs : List Cp) (R : Str → List Str), ROk ys R → (∀ c ∈ cs, CpOk ys c) → ROk ys (cs.foldl stepR R) := by
    intro cs
    induction cs with
    | nil => intro R h _; exact h
    | cons c cs ih => intro R h hc; exact ih _ (rok_step h (hc c List.mem_cons_self)) fun d hd => hc d (List.mem_cons_of_mem _ hd)
  exact fun {cs} h => key cs _ (rok_zero ys) h
/-! ### dicts of lists in the heap -/
abbrev kvR (ks : List Str) (ad : Str → Addr) : List (Key × V) := ks.map fun y => (Sum.inr y, V.ref (ad y))
theorem kv_val {ks : List Str} {ad : Str → Addr} {t : Str} (h : t ∈ ks) : valV (kvR ks ad) (Sum.inr t) = some (V.ref (ad t)) := by
  induction ks with
  | nil => cases h
  | cons y ks ih =>
    by_cases e : y = t
    · rw [← e]
      exact valV_pos rfl
    · rcases List.mem_cons.mp h with z | z
      · exact absurd z.symm e
      · show valV ((Sum.inr y, V.ref (ad y)) :: kvR ks ad) (Sum.inr t) = _
        rw [valV_neg (fun z2 => e (Sum.inr.inj z2))]
        exact ih z
theorem kv_none {ks : List Str} {ad : Str → Addr} {t : Str} (h : t ∉ ks) : valV (kvR ks ad) (Sum.inr t) = none := by
  induction ks with
  | nil => rfl
  | cons y ks ih =>
    show valV ((Sum.inr y, V.ref (ad y)) :: kvR ks ad) (Sum.inr t) = _
    rw [valV_neg (fun z2 => h (List.mem_cons.mpr (.inl (Sum.inr.inj z2).symm)))]
    exact ih fun m => h (List.mem_cons_of_mem _ m)
def upA (ad : Str → Addr) (t : Str) (p : Addr) : Str → Addr := fun y => if y = t then p else ad y
theorem kv_put {ks : List Str} {ad : Str → Addr} {t : Str} {p : Addr} (h : t ∈ ks) : putK (kvR ks ad) (Sum.inr t) (V.ref p) = kvR ks (upA ad t p) := by
  unfold putK
  rw [if_pos (by rw [valV_any, kv_val h]; rfl), kvR, kvR, List.map_map]
  refine List.map_congr_left fun y _ => ?_
  show (if (Sum.inr y : Key) = Sum.inr t then _ else _) = ((Sum.inr y : Key), V.ref (if y = t then p else ad y))
  by_cases e : y = t
  · rw [if_pos (congrArg Sum.inr e), if_pos e]
  · rw [if_neg (fun z => e (Sum.inr.inj z)), if_neg e]
theorem kv_add {ks : List Str} {ad : Str → Addr} {t : Str} {p : Addr} (h : t ∉ ks) : putK (kvR ks ad) (Sum.inr t) (V.ref p) = kvR (ks ++ [t]) (upA ad t p) := by
  rw [putK_new _ (kv_none h), kvR, kvR, List.map_append]
  congr 1
  · refine List.map_congr_left fun y hy => ?_
    show _ = ((Sum.inr y : Key), V.ref (if y = t then p else ad y))
    rw [if_neg (fun (e : y = t) => h (e ▸ hy))]
  · show [_] = [((Sum.inr t : Key), V.ref (if t = t then p else ad t))]
    rw [if_pos rfl]
/-- a dict of new lists, made since H0 -/
structure RowsAt (H0 H : Hp) (d : Addr) (ks : List Str) (ad : Str → Addr) (R : Str → List Str) : Prop where
  at_ : H d = some (.dK (kvR ks ad))
  rows : ∀ y ∈ ks, H (ad y) = some (.lst ((R y).map V.str))
  fd : H0 d = none
  fr : ∀ y ∈ ks, H0 (ad y) = none
theorem RowsAt.same {H0 H H' : Hp} {d : Addr} {ks : List Str} {ad : Str → Addr} {R : Str → List Str} (h : RowsAt H0 H d ks ad R) (e : Same H H') : RowsAt H0 H' d ks ad R :=
  ⟨e _ _ h.at_, fun y hy => e _ _ (h.rows y hy), h.fd, h.fr⟩
theorem RowsAt.from {H1 H0 H : Hp} {d : Addr} {ks : List Str} {ad : Str → Addr} {R : Str → List Str} (h : RowsAt H0 H d ks ad R) (e : Same H1 H0) : RowsAt H1 H d ks ad R :=
  ⟨h.at_, h.rows, e.free h.fd, fun y hy => e.free (h.fr y hy)⟩
theorem ne_row {H : Hp} {d p : Addr} {kvs : List (Key × V)} {xs : List V} (h1 : H d = some (.dK kvs)) (h2 : H p = some (.lst xs)) : p ≠ d := fun e => by
  rw [e, h1] at h2
  cases h2
theorem RowsAt.put {H0 H : Hp} {d p : Addr} {ks : List Str} {ad : Str → Addr} {R : Str → List Str} {t : Str} {v : List Str} (h : RowsAt H0 H d ks ad R) (ht : t ∈ ks) (hp : H p = some (.lst (v.map V.str))) (fp : H0 p = none) :
    RowsAt H0 (upd H d (.dK (putK (kvR ks ad) (Sum.inr t) (V.ref p)))) d ks (upA ad t p) (upR R t v) := by
  rw [kv_put ht]
  refine ⟨upd_same, fun y hy => ?_, h.fd, fun y hy => ?_⟩
  · show upd H d _ (if y = t then p else ad y) = some (.lst ((if y = t then v else R y).map V.str))
    by_cases e : y = t
    · rw [if_pos e, if_pos e, upd_ne (ne_row h.at_ hp), hp]
    · rw [if_neg e, if_neg e, upd_ne (ne_row h.at_ (h.rows y hy)), h.rows y hy]
  · show H0 (if y = t then p else ad y) = none
    by_cases e : y = t
    · rw [if_pos e]; exact fp
    · rw [if_neg e]; exact h.fr y hy
theorem RowsAt.add {H0 H : Hp} {d p : Addr} {ks : List Str} {ad : Str → Addr} {R : Str → List Str} {t : Str} (h : RowsAt H0 H d ks ad R) (ht : t ∉ ks) (hp : H p = some (.lst ((R t).map V.str))) (fp : H0 p = none) :
    RowsAt H0 (upd H d (.dK (putK (kvR ks ad) (Sum.inr t) (V.ref p)))) d (ks ++ [t]) (upA ad t p) R := by
  rw [kv_add ht]
  have cs : ∀ y ∈ ks ++ [t], y = t ∨ (y ≠ t ∧ y ∈ ks) := fun y hy => by
    by_cases e : y = t
    · exact .inl e
    · rcases List.mem_append.mp hy with z | z
      · exact .inr ⟨e, z⟩
      · exact absurd (by simpa using z) e
  refine ⟨upd_same, fun y hy => ?_, h.fd, fun y hy => ?_⟩
  · show upd H d _ (if y = t then p else ad y) = _
    rcases cs y hy with e | ⟨e, m⟩
    · rw [if_pos e, upd_ne (ne_row h.at_ hp), hp, e]
    · rw [if_neg e, upd_ne (ne_row h.at_ (h.rows y m)), h.rows y m]
  · show H0 (if y = t then p else ad y) = none
    rcases cs y hy with e | ⟨e, m⟩
    · rw [if_pos e]; exact fp
    · rw [if_neg e]; exact h.fr y m
/-- the data of such a dict -/
def rowD (l : List Str) : PyData := .list (l.map .str)
def rowsD (ks : List Str) (R : Str → List Str) : PyData := .dict (ks.map fun y => (.str y, rowD (R y)))
theorem strs_dx {K : PySem.W.Frag} {H : Hp} {j : Addr} : ∀ (l : List Str), DxAll K H j (l.map V.str) (l.map .str)
  | [] => .nil
  | y :: l => .cons (.str y) (strs_dx l)
theorem row_dx {K : PySem.W.Frag} {H : Hp} {j a : Addr} {l : List Str} (h : H a = some (.lst (l.map V.str))) (n : a ≠ j) : Dx K H j (.ref a) (rowD l) := .lst n (.inl (.inl h)) (strs_dx l)
theorem RowsAt.dx {K : PySem.W.Frag} {H0 H : Hp} {d j : Addr} {ks : List Str} {ad : Str → Addr} {R : Str → List Str} {o : HO} (h : RowsAt H0 H d ks ad R) (hj : H0 j = some o) : Dx K H j (.ref d) (rowsD ks R) := by
  have nj : ∀ {a : Addr}, H0 a = none → a ≠ j := fun z e => by rw [e, hj] at z; cases z
  refine .dic (nj h.fd) h.at_ ?_
  have key : ∀ (l : List Str), (∀ y ∈ l, H (ad y) = some (.lst ((R y).map V.str)) ∧ H0 (ad y) = none) → DxKv K H j (kvR l ad) (l.map fun y => (.str y, rowD (R y))) := by
    intro l
    induction l with
    | nil => intro _; exact .nil
    | cons y l ih => intro hl; exact .cons (row_dx (hl y List.mem_cons_self).1 (nj (hl y List.mem_cons_self).2)) (ih fun z hz => hl z (List.mem_cons_of_mem _ hz))
  exact key ks fun y hy => ⟨h.rows y hy, h.fr y hy⟩
end Cv


/-! part K11G -/
set_option maxRecDepth 100000
set_option maxHeartbeats 4000000
namespace Cv
open PySem PySem.Spec PyProof.Rows L2
/-! ### what the program says of data -/
def letter (c : Nat) : Bool := decide (97 ≤ c) && decide (c ≤ 122)
def nmB (x : Str) : Bool := decide (1 ≤ x.length) && decide (x.length ≤ 8) && x.cps.toList.all letter
def isNameD : PyData → Bool
  | .str x => nmB x
  | _ => false
def wordB (x : Str) : Bool := decide (x = Str.ofString "over") || decide (x = Str.ofString "skip")
def wordD : PyData → Bool
  | .str x => wordB x
  | _ => false
def sameD : PyData → PyData → Bool
  | .str x, .str y => decide (x = y)
  | _, _ => false
def isCopyD : PyData → Bool
  | .tuple [a, b, c] => wordD a && (isNameD b && (isNameD c && !sameD b c))
  | _ => false
def isScriptD : PyData → Bool
  | .tuple ds => decide (ds.length ≤ 200) && ds.all isCopyD
  | _ => false
/-! its texts are short -/
mutual
def smD : PyData → Bool
  | .str x => decide (x.length ≤ 10000)
  | .list ds => smAll ds
  | .tuple ds => smAll ds
  | .dict es => smKv es
  | .none => true
  | .bool _ => true
  | .int _ => true
def smAll : List PyData → Bool
  | [] => true
  | d :: ds => smD d && smAll ds
def smKv : List (PyData × PyData) → Bool
  | [] => true
  | (k, d) :: es => smD k && smD d && smKv es
end
theorem smAll_mem : ∀ {ds : List PyData} {d : PyData}, smAll ds = true → d ∈ ds → smD d = true
  | [], _, _, h => nomatch h
  | e :: ds, d, h, m => by
    have h' : smD e = true ∧ smAll ds = true := by simpa [smAll] using h
    rcases List.mem_cons.mp m with z | z
    · rw [z]; exact h'.1
    · exact smAll_mem h'.2 z
def tyN : PyData → String
  | .none => "NoneType"
  | .bool _ => "bool"
  | .int _ => "int"
  | .str _ => "str"
  | .list _ => "list"
  | .tuple _ => "tuple"
  | .dict _ => "dict"
def isStr : PyData → Bool
  | .str _ => true
  | _ => false
def isTup : PyData → Bool
  | .tuple _ => true
  | _ => false
section
variable {K : PySem.W.Frag} {H : Hp} {j : Addr} {v : V} {d : PyData}
theorem Dx.ty (h : Dx K H j v d) : TyX K H v (.type (tyN d)) := by
  cases h with
  | non => exact .base .non
  | bl b => exact .base (.bl b)
  | int i => exact .base (.int i)
  | str x => exact .base (.str x)
  | lst _ hs _ =>
    rcases hs with (h | ⟨o, h⟩) | ⟨o, _, _, h1, h2, _⟩
    · exact .base (.lst h)
    · exact .base (.frz h)
    · exact .kList h1 h2
  | tup _ hs _ =>
    rcases hs with (h | ⟨o, h⟩) | ⟨o, _, _, h1, h2, _⟩
    · exact .base (.tup h)
    · exact .fTuple h
    · exact .kTuple h1 h2
  | dic _ hs _ => exact .base (.dK hs)
theorem kit_str : ∀ d : PyData, kitB (tyN d) "str" = some (isStr d)
  | .none => by decide +kernel
  | .bool _ => by show kitB "bool" "str" = some false; decide +kernel
  | .int _ => by show kitB "int" "str" = some false; decide +kernel
  | .str _ => by show kitB "str" "str" = some true; decide +kernel
  | .list _ => by show kitB "list" "str" = some false; decide +kernel
  | .tuple _ => by show kitB "tuple" "str" = some false; decide +kernel
  | .dict _ => by show kitB "dict" "str" = some false; decide +kernel
theorem kit_tup : ∀ d : PyData, kitB (tyN d) "tuple" = some (isTup d)
  | .none => by decide +kernel
  | .bool _ => by show kitB "bool" "tuple" = some false; decide +kernel
  | .int _ => by show kitB "int" "tuple" = some false; decide +kernel
  | .str _ => by show kitB "str" "tuple" = some false; decide +kernel
  | .list _ => by show kitB "list" "tuple" = some false; decide +kernel
  | .tuple _ => by show kitB "tuple" "tuple" = some true; decide +kernel
  | .dict _ => by show kitB "dict" "tuple" = some false; decide +kernel
theorem rd_str {Q : VK} (h : Dx K H j v d) (q : Q (.bl (isStr d)) H) : rIsi K [v, .ty "str"] H Q := ⟨v, .ty "str", _, _, _, rfl, .ty "str", h.ty, kit_ty (kit_str d), q⟩
theorem rd_tup {Q : VK} (h : Dx K H j v d) (q : Q (.bl (isTup d)) H) : rIsi K [v, .ty "tuple"] H Q := ⟨v, .ty "tuple", _, _, _, rfl, .ty "tuple", h.ty, kit_ty (kit_tup d), q⟩
end
theorem DxAll.len {K : PySem.W.Frag} {H : Hp} {j : Addr} : ∀ {vs : List V} {ds : List PyData}, DxAll K H j vs ds → vs.length = ds.length
  | _, _, .nil => rfl
  | _, _, .cons _ t => by rw [List.length_cons, List.length_cons, DxAll.len t]
theorem DxAll.get {K : PySem.W.Frag} {H : Hp} {j : Addr} : ∀ {vs : List V} {ds : List PyData} {i : Nat} {v : V}, DxAll K H j vs ds → vs[i]? = some v → ∃ d, ds[i]? = some d ∧ Dx K H j v d
  | _, _, _, _, .nil, e => by simp at e
  | _, _, 0, _, .cons h _, e => by
    have e' := Option.some.inj e
    subst e'
    exact ⟨_, rfl, h⟩
  | _, _, i + 1, v, .cons _ t, e => DxAll.get (i := i) t e
/-- the module's constants -/
structure Gb (K : PySem.W.Frag) (mg : Str → Option Value) : Prop where
  ln : ∃ t, mg "LONGEST_NAME" = some (.int 8 t)
  mc : ∃ t, mg "MOST_COPIES" = some (.int 200 t)
  wd : ∃ a, mg "WORDS" = some (.ref a) ∧ ∀ H, SqT K H a [.str (Str.ofString "over"), .str (Str.ofString "skip")]
theorem sqOf0 {K : PySem.W.Frag} {H : Hp} {a : Addr} {xs : List V} (h : H a = some (.lst xs)) : SqL K H a xs := .inl (.inl h)
def spD (K : PySem.W.Frag) (g : PyData → Bool) : Sp := fun vs H Q _ => ∃ (j : Addr) (v : V) (d : PyData), vs = [v] ∧ Dx K H j v d ∧ smD d = true ∧ ∀ H', Same H H' → Q (.bl (g d)) H'
theorem lt1 (a b : Nat) : decide (([a] : List Nat) < [b]) = decide (a < b) := by
  have e : ([a] : List Nat) < [b] ↔ a < b := by
    rw [List.cons_lt_cons_iff]
    constructor
    · rintro (h | ⟨_, h⟩)
      · exact h
      · exact absurd h (by simp)
    · exact .inl
  by_cases h : a < b
  · rw [decide_eq_true h, decide_eq_true (e.mpr h)]
  · rw [decide_eq_false h, decide_eq_false (fun z => h (e.mp z))]
theorem letter_of (c : Nat) : (if (!decide (([c] : List Nat) < [97])) = true then !decide (([122] : List Nat) < [c]) else false) = letter c := by
  rw [lt1, lt1]
  unfold letter
  by_cases h : c < 97
  · rw [decide_eq_true h, decide_eq_false (show ¬ 97 ≤ c by omega)]
    rfl
  · rw [decide_eq_false h, decide_eq_true (show 97 ≤ c by omega)]
    by_cases h2 : 122 < c
    · rw [decide_eq_true h2, decide_eq_false (show ¬ c ≤ 122 by omega)]
      rfl
    · rw [decide_eq_false h2, decide_eq_true (show c ≤ 122 by omega)]
      rfl
section
variable {P : Program} {w : World} {K : PySem.W.Frag} {mg : Str → Option Value} {base : Heap}
theorem scNm : FnScope ["value", "sign"] ["value"] (defScope sName) := ⟨rfl, rfl, rfl, by decide +kernel, rfl, by decide +kernel, by decide +kernel⟩
theorem ok_name {f : Addr} {fd : FuncData} (F : Fun K "is_name" "is_name" sName f fd) (B : Bl mg) (G : Gb K mg) : FnOk P w K mg base CX0 1 f fd ["value"] (spD K isNameD) := by
  obtain ⟨t8, g8⟩ := G.ln
  refine F.ok scNm (fun vs H Q E h => ?_) (fun cdv A outer s H vs Q E hr h => ?_)
  · obtain ⟨j, v, d, rfl, _⟩ := h
    rfl
  · obtain ⟨j, v, d, rfl, hx, hsm, q⟩ := h
    refine ⟨_, pss_cons (ps_if (PW.pt (pw_or (pt_not (pt_val (pe_callB call_isi (by rfl) B.isi (by decide +kernel) (pa_cons (pv 0) (pa_cons (pe_bltn (v := .ty "str") (u := .type "str") (by rfl) B.str (by decide +kernel) rfl) pa_nil)))))
          (pw_or1 (pt_not (pt_chain op_le op_le pe_int (pe_callB call_len_str (by rfl) B.len PySem.boot_len (pa_cons (pv 0) pa_nil)) (pe_glob (v := .int 8) (by rfl) g8 ⟨_, rfl⟩))))))
        (pss_one (ps_ret pe_bl)) pss_nil)
      (pss_one (ps_ret (pe_callB (cr_all rfl) (by rfl) B.all (by decide +kernel) (pa_cons (pe_lc (own := [("sign", 1)]) (tt := tYes) rfl scNm.nd (pi_str (pv 0)) (blkOk_by (N := ["value", "sign"]) (sc := defScope sName) (by decide +kernel))
        (fun _ _ _ _ _ => pg_name (i := 1) scNm.nd rfl (.inl rfl)) (fun _ _ _ _ _ => pts_nil) (fun _ _ _ _ _ => pe_chain op_le_str op_le_str pe_str (pv 1) pe_str)) pa_nil)))), ?_⟩
    refine ⟨v, rfl, v, .ty "str", _, _, _, rfl, .ty "str", hx.ty, kit_ty (kit_str d), _, rfl, ?_⟩
    have no : isNameD d = false → ∀ H', Same H H' → Q (.bl false) H' := fun e H' h => by rw [← e]; exact q H' h
    cases hx with
    | str x =>
      have hl : x.length ≤ 10000 := by simpa [smD] using hsm
      refine ⟨_, rfl, x, rfl, Nat.le_trans hl (by decide), 1, _, rfl, rfl, _, rfl, ?_⟩
      show if decide ((1 : Int) ≤ (x.length : Int)) = true then _ else _
      refine ite2 (fun c => ?_) (fun c => ?_)
      · refine ⟨_, 8, rfl, rfl, _, rfl, ?_⟩
        show if (!decide ((x.length : Int) ≤ 8)) = true then _ else _
        refine ite2 (fun c2 => ?_) (fun c2 => ?_)
        · refine no ?_ H (Same.refl H)
          have : ¬ x.length ≤ 8 := by
            intro z
            rw [decide_eq_true (show (x.length : Int) ≤ 8 by omega)] at c2
            cases c2
          show nmB x = false
          unfold nmB
          rw [decide_eq_false this, Bool.and_false, Bool.false_and]
        · have l1 : 1 ≤ x.length := by have := of_decide_eq_true c; omega
          have l8 : x.length ≤ 8 := by
            by_cases z : (x.length : Int) ≤ 8
            · omega
            · rw [decide_eq_false z] at c2
              exact absurd rfl c2
          -- all([..])
          refine ⟨_, rfl, x, rfl, fun D nD => ?_⟩
          refine lc_it walk_str (fun i H' => H' D = some (.lst (((x.cps.toList.take i).map letter).map V.bl)) ∧ Same H H') ⟨upd_same, same_new nD⟩ (fun _ _ _ _ => trivial) ?_ ?_
          · rintro i y H1 H2 hi ⟨hD, e1⟩ ⟨rfl, c, hc, rfl⟩
            have hc' : x.cps.toList[i]? = some c := by rw [Array.getElem?_toList]; exact hc
            refine ⟨rfl, ⟨_, rfl, _, _, rfl, rfl, _, rfl, ?_⟩⟩
            have fin : ∃ acc, H2 D = some (.lst acc) ∧ acc.length < sizeLine ∧ (upd H2 D (.lst (acc ++ [V.bl (letter c)])) D = some (.lst (((x.cps.toList.take (i + 1)).map letter).map V.bl)) ∧ Same H (upd H2 D (.lst (acc ++ [V.bl (letter c)])))) := by
              refine ⟨_, hD, ?_, ?_, same_up e1 nD⟩
              · rw [List.length_map, List.length_map, List.length_take]
                have sz : x.cps.size ≤ 8 := l8
                exact small1000 (by omega)
              · rw [upd_same, List.take_add_one, hc', List.map_append, List.map_append]
                rfl
            rw [← letter_of] at fin
            show if (!decide (([c] : List Nat) < [97])) = true then _ else _
            by_cases k : (!decide (([c] : List Nat) < [97])) = true
            · rw [if_pos k] at fin ⊢
              exact ⟨_, _, rfl, rfl, fin⟩
            · rw [if_neg k] at fin ⊢
              exact fin
          · rintro H1 ⟨hD, e1⟩
            refine ⟨D, _, rfl, sqOf0 hD, ?_⟩
            have e : isNameD (.str x) = ((x.cps.toList.take x.cps.size).map letter).all id := by
              show nmB x = _
              unfold nmB
              rw [decide_eq_true l1, decide_eq_true l8, List.take_of_length_le (by simp), List.all_map]
              rfl
            rw [← e]
            exact q H1 e1
      · refine ⟨false, rfl, no ?_ H (Same.refl H)⟩
        have : ¬ 1 ≤ x.length := by
          intro z
          exact c (decide_eq_true (by omega))
        show nmB x = false
        unfold nmB
        rw [decide_eq_false this, Bool.false_and, Bool.false_and]
    | non => exact no rfl H (Same.refl H)
    | bl b => exact no rfl H (Same.refl H)
    | int i => exact no rfl H (Same.refl H)
    | lst _ _ _ => exact no rfl H (Same.refl H)
    | tup _ _ _ => exact no rfl H (Same.refl H)
    | dic _ _ _ => exact no rfl H (Same.refl H)
end
end Cv


/-! part K11H -/
set_option maxRecDepth 100000
set_option maxHeartbeats 4000000
namespace Cv
open PySem PySem.Spec PyProof.Rows L2
theorem inV_word (x : Str) : inV (.str x) [V.str (Str.ofString "over"), V.str (Str.ofString "skip")] = wordB x := by
  unfold inV wordB
  simp only [List.any_cons, List.any_nil, Bool.or_false]
  have e : ∀ y : Str, eqV (.str y) (.str x) = decide (x = y) := fun y => by
    by_cases h : x = y
    · subst h
      simp [eqV]
    · rw [decide_eq_false h]
      simp [eqV]
      exact fun z => h z.symm
  rw [e, e]
theorem copy_no {ds : List PyData} (h : ds.length ≠ 3) : isCopyD (.tuple ds) = false := by
  cases ds with
  | nil => rfl
  | cons a r =>
    cases r with
    | nil => rfl
    | cons b r =>
      cases r with
      | nil => rfl
      | cons c r =>
        cases r with
        | nil => exact absurd rfl h
        | cons _ _ => rfl
theorem nameStr {d : PyData} (h : isNameD d = true) : ∃ x, d = .str x := by
  cases d with
  | str x => exact ⟨x, rfl⟩
  | none => exact nomatch h
  | bool _ => exact nomatch h
  | int _ => exact nomatch h
  | list _ => exact nomatch h
  | tuple _ => exact nomatch h
  | dict _ => exact nomatch h
section
variable {P : Program} {w : World} {K : PySem.W.Frag} {mg : Str → Option Value} {base : Heap}
theorem dx_three {H : Hp} {j : Addr} {xs : List V} {ds : List PyData} (ha : DxAll K H j xs ds) (l : xs.length = 3) : ∃ x1 x2 x3 d1 d2 d3, xs = [x1, x2, x3] ∧ ds = [d1, d2, d3] ∧ Dx K H j x1 d1 ∧ Dx K H j x2 d2 ∧ Dx K H j x3 d3 := by
  cases ha with
  | nil => exact nomatch l
  | cons h1 t =>
    cases t with
    | nil => exact nomatch l
    | cons h2 t =>
      cases t with
      | nil => exact nomatch l
      | cons h3 t =>
        cases t with
        | nil => exact ⟨_, _, _, _, _, _, rfl, rfl, h1, h2, h3⟩
        | cons _ _ => simp at l
theorem scCp : FnScope ["value", "word", "source", "target"] ["value"] (defScope sCopy) := ⟨rfl, rfl, rfl, by decide +kernel, rfl, by decide +kernel, by decide +kernel⟩
theorem Dx.same {H H' : Hp} {j : Addr} {v : V} {d : PyData} (h : Dx K H j v d) (e : Same H H') : Dx K H' j v d := h.keep (Eff.same e) d v
theorem ok_copy {f : Addr} {fd : FuncData} (F : Fun K "is_copy" "is_copy" sCopy f fd) (B : Bl mg) (G : Gb K mg) (DN : Has P w K mg base CX0 1 "is_name" ["value"] (spD K isNameD)) :
    FnOk P w K mg base CX0 2 f fd ["value"] (spD K isCopyD) := by
  obtain ⟨aw, gw, sw⟩ := G.wd
  refine F.ok scCp (fun vs H Q E h => ?_) (fun cdv A outer s H vs Q E hr h => ?_)
  · obtain ⟨j, v, d, rfl, _⟩ := h
    rfl
  · obtain ⟨j, v, d, rfl, hx, hsm, q⟩ := h
    refine ⟨_, pss_cons (ps_if (PW.pt (pw_or (pt_not (pt_val (pe_callB call_isi (by rfl) B.isi (by decide +kernel) (pa_cons (pv 0) (pa_cons (pe_bltn (v := .ty "tuple") (u := .type "tuple") (by rfl) B.tuple (by decide +kernel) rfl) pa_nil)))))
          (pw_or1 (pt_cmpR op_ne (pe_callB call_len_seq (by rfl) B.len PySem.boot_len (pa_cons (pv 0) pa_nil)) pe_int (nomark _)))))
        (pss_one (ps_ret pe_bl)) pss_nil)
      (pss_cons (ps_asg (pv 0) (pg_tup rfl (pgs_cons (pg_name (i := 1) scCp.nd rfl (.inl rfl)) (pgs_cons (pg_name (i := 2) scCp.nd rfl (.inl rfl)) (pgs_cons (pg_name (i := 3) scCp.nd rfl (.inl rfl)) pgs_nil)))))
      (pss_cons (ps_if (PW.pt (pw_or (pt_not (pt_val (pe_callB call_isi (by rfl) B.isi (by decide +kernel) (pa_cons (pv 1) (pa_cons (pe_bltn (v := .ty "str") (u := .type "str") (by rfl) B.str (by decide +kernel) rfl) pa_nil)))))
          (pw_or1 (pt_cmpR op_notIn_seq (pv 1) (pe_glob (v := .ref aw) (by rfl) gw rfl) rfl))))
        (pss_one (ps_ret pe_bl)) pss_nil)
      (pss_one (ps_ret (pe_and (pe_has DN hr pass0 (pa_cons (pv 2) pa_nil)) (pe_and (pe_has DN hr pass0 (pa_cons (pv 3) pa_nil)) (pe_one (pe_cmpR op_ne (pv 2) (pv 3) (nomark _))))))))), ?_⟩
    have no : isCopyD d = false → ∀ H', Same H H' → Q (.bl false) H' := fun e H' h => by rw [← e]; exact q H' h
    refine ⟨v, rfl, v, .ty "tuple", _, _, _, rfl, .ty "tuple", hx.ty, kit_ty (kit_tup d), _, rfl, ?_⟩
    cases hx with
    | @tup a xs ds haj hs ha =>
      have el := ha.len
      refine ⟨_, rfl, a, xs, rfl, .inr hs, rfl, _, rfl, ?_⟩
      show if (!decide (V.int (xs.length : Int) = V.int 3)) = true then _ else _
      refine ite2 (fun c => ?_) (fun c => ?_)
      · refine no (copy_no fun z => ?_) H (Same.refl H)
        rw [← el] at z
        rw [z] at c
        exact absurd c (by decide)
      · have l3 : xs.length = 3 := by
          by_cases z : xs.length = 3
          · exact z
          · rw [decide_eq_false (fun y => z (by injection y with y; omega))] at c
            exact absurd rfl c
        obtain ⟨x1, x2, x3, d1, d2, d3, rfl, rfl, h1, h2, h3⟩ := dx_three ha l3
        refine ⟨_, rfl, a, _, rfl, hs, rfl, _, _, rfl, _, _, rfl, _, _, rfl, rfl, ?_⟩
        refine ⟨x1, rfl, x1, .ty "str", _, _, _, rfl, .ty "str", h1.ty, kit_ty (kit_str d1), _, rfl, ?_⟩
        have sm2 : smD d2 = true := smAll_mem (ds := [d1, d2, d3]) (by simpa [smD] using hsm) (by simp)
        have sm3 : smD d3 = true := smAll_mem (ds := [d1, d2, d3]) (by simpa [smD] using hsm) (by simp)
        cases h1 with
        | str x =>
          refine ⟨_, rfl, aw, _, rfl, .inr (sw H), rfl, rfl, _, rfl, ?_⟩
          show if (!inV (.str x) [V.str (Str.ofString "over"), V.str (Str.ofString "skip")]) = true then _ else _
          rw [inV_word]
          refine ite2 (fun c2 => ?_) (fun c2 => ?_)
          · refine no ?_ H (Same.refl H)
            have : wordB x = false := by simpa using c2
            show (wordB x && _) = false
            rw [this, Bool.false_and]
          · have wx : wordB x = true := by simpa using c2
            have e0 : isCopyD (.tuple [.str x, d2, d3]) = (isNameD d2 && (isNameD d3 && !sameD d2 d3)) := by
              show (wordB x && _) = _
              rw [wx, Bool.true_and]
            rw [e0] at q
            refine ⟨_, rfl, j, x2, d2, rfl, h2, sm2, fun H1 e1 => ⟨_, rfl, ?_⟩⟩
            cases n2 : isNameD d2 with
            | false =>
              rw [n2, Bool.false_and] at q
              exact q H1 e1
            | true =>
              rw [n2, Bool.true_and] at q
              refine ⟨_, rfl, j, x3, d3, rfl, h3.same e1, sm3, fun H2 e2 => ⟨_, rfl, ?_⟩⟩
              cases n3 : isNameD d3 with
              | false =>
                rw [n3, Bool.false_and] at q
                exact q H2 (e1.trans e2)
              | true =>
                rw [n3, Bool.true_and] at q
                obtain ⟨s2, rfl⟩ := nameStr n2
                obtain ⟨s3, rfl⟩ := nameStr n3
                cases h2
                cases h3
                refine ⟨_, rfl, _, rfl, rfl, ?_⟩
                have e3 : decide (V.str s2 = V.str s3) = sameD (.str s2) (.str s3) := by
                  show _ = decide (s2 = s3)
                  by_cases z : s2 = s3
                  · subst z
                    simp
                  · rw [decide_eq_false z, decide_eq_false fun y => z (by injection y)]
                rw [e3]
                exact q H2 (e1.trans e2)
        | non => exact no rfl H (Same.refl H)
        | bl b => exact no rfl H (Same.refl H)
        | int i => exact no rfl H (Same.refl H)
        | lst _ _ _ => exact no rfl H (Same.refl H)
        | tup _ _ _ => exact no rfl H (Same.refl H)
        | dic _ _ _ => exact no rfl H (Same.refl H)
    | non => exact no rfl H (Same.refl H)
    | bl b => exact no rfl H (Same.refl H)
    | int i => exact no rfl H (Same.refl H)
    | str _ => exact no rfl H (Same.refl H)
    | lst _ _ _ => exact no rfl H (Same.refl H)
    | dic _ _ _ => exact no rfl H (Same.refl H)
theorem same_t {H H' : Hp} {a : Addr} {xs : List V} (e : Same H H') (h : SqT K H a xs) : SqT K H' a xs := by
  rcases h with (h | ⟨o, h⟩) | h
  · exact .inl (.inl (e _ _ h))
  · exact .inl (.inr ⟨o, e _ _ h⟩)
  · exact .inr h
theorem scSc : FnScope ["value", "item"] ["value"] (defScope sScript) := ⟨rfl, rfl, rfl, by decide +kernel, rfl, by decide +kernel, by decide +kernel⟩
theorem ok_script {f : Addr} {fd : FuncData} (F : Fun K "is_script" "is_script" sScript f fd) (B : Bl mg) (G : Gb K mg) (DC : Has P w K mg base CX0 2 "is_copy" ["value"] (spD K isCopyD)) :
    FnOk P w K mg base CX0 3 f fd ["value"] (spD K isScriptD) := by
  obtain ⟨t2, g2⟩ := G.mc
  refine F.ok scSc (fun vs H Q E h => ?_) (fun cdv A outer s H vs Q E hr h => ?_)
  · obtain ⟨j, v, d, rfl, _⟩ := h
    rfl
  · obtain ⟨j, v, d, rfl, hx, hsm, q⟩ := h
    refine ⟨_, pss_cons (ps_if (PW.pt (pw_or (pt_not (pt_val (pe_callB call_isi (by rfl) B.isi (by decide +kernel) (pa_cons (pv 0) (pa_cons (pe_bltn (v := .ty "tuple") (u := .type "tuple") (by rfl) B.tuple (by decide +kernel) rfl) pa_nil)))))
          (pw_or1 (pt_cmpR op_gt (pe_callB call_len_seq (by rfl) B.len PySem.boot_len (pa_cons (pv 0) pa_nil)) (pe_glob (v := .int 200) (by rfl) g2 ⟨_, rfl⟩) (nomark _)))))
        (pss_one (ps_ret pe_bl)) pss_nil)
      (pss_one (ps_ret (pe_callB (cr_all rfl) (by rfl) B.all (by decide +kernel) (pa_cons (pe_lc (own := [("item", 1)]) (tt := tYes) rfl scSc.nd (pi_tup (pv 0)) (blkOk_by (N := ["value", "item"]) (sc := defScope sScript) (by decide +kernel))
        (fun _ _ _ _ _ => pg_name (i := 1) scSc.nd rfl (.inl rfl)) (fun _ _ _ _ _ => pts_nil) (fun _ _ _ _ _ => pe_has DC hr pass0 (pa_cons (pv 1) pa_nil))) pa_nil)))), ?_⟩
    have no : isScriptD d = false → ∀ H', Same H H' → Q (.bl false) H' := fun e H' h => by rw [← e]; exact q H' h
    refine ⟨v, rfl, v, .ty "tuple", _, _, _, rfl, .ty "tuple", hx.ty, kit_ty (kit_tup d), _, rfl, ?_⟩
    cases hx with
    | @tup a xs ds haj hs ha =>
      have el := ha.len
      refine ⟨_, rfl, a, xs, rfl, .inr hs, _, 200, rfl, rfl, _, rfl, ?_⟩
      show if decide ((200 : Int) < (xs.length : Int)) = true then _ else _
      refine ite2 (fun c => ?_) (fun c => ?_)
      · refine no ?_ H (Same.refl H)
        have := of_decide_eq_true c
        show (decide (ds.length ≤ 200) && _) = false
        rw [decide_eq_false (by omega), Bool.false_and]
      · have l200 : ds.length ≤ 200 := by
          by_cases z : (200 : Int) < (xs.length : Int)
          · exact absurd (decide_eq_true z) c
          · omega
        refine ⟨_, rfl, a, rfl, ⟨xs, hs⟩, fun D nD => ?_⟩
        refine lc_it walk_tup (fun i H' => H' D = some (.lst (((ds.take i).map isCopyD).map V.bl)) ∧ Same H H') ⟨upd_same, same_new nD⟩ (fun i H' _ h => same_t h.2 hs) ?_ ?_
        · rintro i x H1 H2 hi ⟨hD, e1⟩ ⟨rfl, hc⟩
          obtain ⟨di, hdi, hxi⟩ := ha.get hc
          refine ⟨rfl, ⟨x, rfl, j, x, di, rfl, hxi.same e1, smAll_mem (by simpa [smD] using hsm) (List.mem_of_getElem? hdi), fun H3 e3 => ?_⟩⟩
          refine ⟨_, e3 _ _ hD, ?_, ?_, same_up (e1.trans e3) nD⟩
          · rw [List.length_map, List.length_map, List.length_take]
            exact small1000 (by omega)
          · rw [upd_same, List.take_add_one, hdi, List.map_append, List.map_append]
            rfl
        · rintro H1 ⟨hD, e1⟩
          refine ⟨D, _, rfl, sqOf0 hD, ?_⟩
          have e : isScriptD (.tuple ds) = ((ds.take xs.length).map isCopyD).all id := by
            show (decide (ds.length ≤ 200) && ds.all isCopyD) = _
            rw [decide_eq_true l200, List.take_of_length_le (by omega), List.all_map, Bool.true_and]
            rfl
          rw [← e]
          exact q H1 e1
    | non => exact no rfl H (Same.refl H)
    | bl b => exact no rfl H (Same.refl H)
    | int i => exact no rfl H (Same.refl H)
    | str _ => exact no rfl H (Same.refl H)
    | lst _ _ _ => exact no rfl H (Same.refl H)
    | dic _ _ _ => exact no rfl H (Same.refl H)
end
end Cv


/-! part K11J -/
set_option maxRecDepth 100000
set_option maxHeartbeats 4000000
namespace Cv
open PySem PySem.Spec PyProof.Rows L2
/-! ### data that repr may show: its weight at most n, its depth at most k -/
structure Gd (d : PyData) (n k : Nat) : Prop where
  ls : d.leavesShort 13 = true
  sh : d.showable = true
  dp : d.depth ≤ k
  wt : d.weight ≤ n
  sm : smD d = true
inductive Gds : List PyData → Nat → Nat → Prop
  | nil (k : Nat) : Gds [] 0 k
  | cons {d : PyData} {ds : List PyData} {n m k : Nat} : Gd d n k → Gds ds m k → Gds (d :: ds) (n + 1 + m) k
theorem Gd.mono {d : PyData} {n n' k k' : Nat} (h : Gd d n k) (hn : n ≤ n') (hk : k ≤ k') : Gd d n' k' := ⟨h.ls, h.sh, Nat.le_trans h.dp hk, Nat.le_trans h.wt hn, h.sm⟩
theorem Gds.up {k k' : Nat} (hk : k ≤ k') : ∀ {ds : List PyData} {n : Nat}, Gds ds n k → Gds ds n k'
  | _, _, .nil _ => .nil _
  | _, _, .cons h t => .cons (h.mono (Nat.le_refl _) hk) (Gds.up hk t)
theorem Gds.app {k : Nat} : ∀ {a b : List PyData} {n m : Nat}, Gds a n k → Gds b m k → Gds (a ++ b) (n + m) k
  | _, _, _, m, .nil _, h => by
    rw [Nat.zero_add]
    exact h
  | _, _, _, m, .cons (n := x) (m := y) h t, g => by
    rw [Nat.add_assoc]
    exact .cons h (Gds.app t g)
theorem Gds.mem {k : Nat} : ∀ {ds : List PyData} {n : Nat} {d : PyData}, Gds ds n k → d ∈ ds → Gd d n k
  | _, _, _, .nil _, h => nomatch h
  | _, _, d, .cons (n := x) (m := y) h t, m => by
    rcases List.mem_cons.mp m with e | m
    · rw [e]
      exact h.mono (by omega) (Nat.le_refl _)
    · exact (Gds.mem t m).mono (by omega) (Nat.le_refl _)
structure GdsF (ds : List PyData) (n k : Nat) : Prop where
  ls : PyData.leavesShortAll 13 ds = true
  sh : PyData.showableAll ds = true
  dp : PyData.depthAll ds ≤ k
  wt : PyData.weightAll ds ≤ n
  sm : smAll ds = true
theorem Gds.all {k : Nat} : ∀ {ds : List PyData} {n : Nat}, Gds ds n k → GdsF ds n k
  | _, _, .nil _ => ⟨rfl, rfl, Nat.zero_le _, Nat.le_refl _, rfl⟩
  | _, _, .cons h t => by
    have i := Gds.all t
    refine ⟨?_, ?_, ?_, ?_, ?_⟩
    · simp only [PyData.leavesShortAll, h.ls, i.ls, Bool.and_self]
    · simp only [PyData.showableAll, h.sh, i.sh, Bool.and_self]
    · simp only [PyData.depthAll]
      exact Nat.max_le.mpr ⟨h.dp, i.dp⟩
    · simp only [PyData.weightAll]
      have := h.wt
      have := i.wt
      omega
    · simp only [smAll, h.sm, i.sm, Bool.and_self]
theorem Gd.tup {ds : List PyData} {n k : Nat} (h : Gds ds n k) : Gd (.tuple ds) n (k + 1) := by
  have i := h.all
  exact ⟨by simpa only [PyData.leavesShort] using i.ls, by simpa only [PyData.showable] using i.sh, by simpa only [PyData.depth] using Nat.succ_le_succ i.dp, by simpa only [PyData.weight] using i.wt, by simpa only [smD] using i.sm⟩
theorem Gd.lst {ds : List PyData} {n k : Nat} (h : Gds ds n k) : Gd (.list ds) n (k + 1) := by
  have i := h.all
  exact ⟨by simpa only [PyData.leavesShort] using i.ls, by simpa only [PyData.showable] using i.sh, by simpa only [PyData.depth] using Nat.succ_le_succ i.dp, by simpa only [PyData.weight] using i.wt, by simpa only [smD] using i.sm⟩
theorem Gd.non (k : Nat) : Gd .none 0 k := ⟨rfl, rfl, Nat.zero_le _, Nat.le_refl _, rfl⟩
theorem Gd.bool (b : Bool) (k : Nat) : Gd (.bool b) 0 k := ⟨rfl, rfl, Nat.zero_le _, Nat.le_refl _, rfl⟩
theorem Gd.int {i : Int} (h : i.natAbs < 10 ^ 12) (h2 : i.natAbs.log2 < 63) (k : Nat) : Gd (.int i) 64 k := by
  refine ⟨?_, ?_, Nat.zero_le _, ?_, rfl⟩
  · simp only [PyData.leavesShort, decide_eq_true_eq]
    exact PyData.shown_int_le h
  · simp only [PyData.showable, decide_eq_true_eq]
    omega
  · simp only [PyData.weight]
    split <;> omega
theorem Gd.dic0 (k : Nat) : Gd (.dict []) 0 (k + 1) := by
  refine ⟨rfl, rfl, ?_, ?_, rfl⟩
  · simp only [PyData.depth, PyData.depthKv]
    omega
  · simp only [PyData.weight, PyData.weightKv]
    omega
theorem Gd.str {x : Str} {n : Nat} (hc : ∀ c ∈ x.cps.toList, c < 1000000) (hl : x.length ≤ n) (hn : n ≤ 10000) (k : Nat) : Gd (.str x) n k := by
  refine ⟨?_, rfl, Nat.zero_le _, ?_, ?_⟩
  · simp only [PyData.leavesShort, List.all_eq_true, decide_eq_true_eq]
    intro c h
    have := hc c h
    have e : (16 : Nat) ^ 8 = 4294967296 := by decide
    omega
  · simp only [PyData.weight]
    exact hl
  · simp only [smD, decide_eq_true_eq]
    omega
theorem Gd.fits {d : PyData} {n k : Nat} (h : Gd d n k) (hn : n ≤ 2 ^ 20) : d.shown.length ≤ sizeLine := PyData.shown_fits (B := 13) (by decide) (by decide) h.ls (Nat.le_trans h.wt hn)
/-! ### new objects -/
section
variable {K : PySem.W.Frag} {H H' : Hp} {j p : Addr} {o : HO}
theorem DxAll.same {vs : List V} {ds : List PyData} (h : DxAll K H j vs ds) (e : Same H H') : DxAll K H' j vs ds := DxAll.keep (Eff.same e) ds vs h
theorem DxAll.eff {vs : List V} {ds : List PyData} (h : DxAll K H j vs ds) (e : Eff j H H') : DxAll K H' j vs ds := DxAll.keep e ds vs h
theorem Dx.eff {v : V} {d : PyData} (h : Dx K H j v d) (e : Eff j H H') : Dx K H' j v d := h.keep e d v
theorem DxAll.app : ∀ {vs ws : List V} {ds es : List PyData}, DxAll K H j vs ds → DxAll K H j ws es → DxAll K H j (vs ++ ws) (ds ++ es)
  | _, _, _, _, .nil, h => h
  | _, _, _, _, .cons h t, g => .cons h (DxAll.app t g)
theorem DxAll.take : ∀ {vs : List V} {ds : List PyData} (n : Nat), DxAll K H j vs ds → DxAll K H j (vs.take n) (ds.take n)
  | _, _, 0, _ => .nil
  | _, _, _ + 1, .nil => .nil
  | _, _, n + 1, .cons h t => .cons h (DxAll.take n t)
theorem DxAll.drop : ∀ {vs : List V} {ds : List PyData} (n : Nat), DxAll K H j vs ds → DxAll K H j (vs.drop n) (ds.drop n)
  | _, _, 0, h => h
  | _, _, _ + 1, .nil => .nil
  | _, _, n + 1, .cons _ t => DxAll.drop n t
theorem DxAll.one {v : V} {d : PyData} (h : Dx K H j v d) : DxAll K H j [v] [d] := .cons h .nil
theorem new_tup {xs : List V} {ds : List PyData} (hj : H j = some o) (hp : H p = none) (h : DxAll K H j xs ds) : Dx K (upd H p (.tup xs)) j (.ref p) (.tuple ds) :=
  .tup (ne_of_none hj hp).symm (.inl (.inl upd_same)) (h.same (same_new hp))
theorem new_lst {xs : List V} {ds : List PyData} (hj : H j = some o) (hp : H p = none) (h : DxAll K H j xs ds) : Dx K (upd H p (.lst xs)) j (.ref p) (.list ds) :=
  .lst (ne_of_none hj hp).symm (.inl (.inl upd_same)) (h.same (same_new hp))
theorem new_dic (hj : H j = some o) (hp : H p = none) : Dx K (upd H p (.dK [])) j (.ref p) (.dict []) :=
  .dic (ne_of_none hj hp).symm upd_same .nil
end
end Cv


/-! part K11O -/
set_option maxRecDepth 100000
set_option maxHeartbeats 4000000
namespace Cv
open PySem PySem.Spec PyProof.Rows L2
/-- what isn't reached -/
theorem ps_dead {X : Cx} {st : Stmt} : PS X st (fun _ _ _ => False) := ⟨fun _ _ _ _ _ _ h => h.elim⟩
structure Gm (mg : Str → Option Value) : Prop where
  mf : ∃ t, mg "MOST_FOLDERS" = some (.int 20 t)
def strsOf : List PyData → List Str
  | .str x :: r => x :: strsOf r
  | _ :: r => strsOf r
  | [] => []
def areFoldersD : PyData → Bool
  | .tuple ds => (decide (1 ≤ ds.length) && decide (ds.length ≤ 20)) && (ds.all isNameD && decide (strsOf ds).Nodup)
  | _ => false
theorem names_vals {K : PySem.W.Frag} {H : Hp} {j : Addr} : ∀ {vs : List V} {ds : List PyData}, DxAll K H j vs ds → ds.all isNameD = true → vs = (strsOf ds).map V.str ∧ (strsOf ds).length = ds.length
  | _, _, .nil, _ => ⟨rfl, rfl⟩
  | _, _, .cons (d := d) (ds := ds) h t, e => by
    have e2 : (isNameD d && ds.all isNameD) = true := e
    rw [Bool.and_eq_true] at e2
    obtain ⟨x, rfl⟩ := nameStr e2.1
    obtain ⟨a, b⟩ := names_vals t e2.2
    cases h
    rw [a]
    exact ⟨rfl, congrArg Nat.succ b⟩
def spOk (K : PySem.W.Frag) (g : PyData → Bool) : Sp := fun vs H Q _ => ∃ (j : Addr) (v : V) (d : PyData), vs = [v] ∧ Dx K H j v d ∧ smD d = true ∧ g d = true ∧ ∀ H', Same H H' → Q .non H'
def spChkS (K : PySem.W.Frag) : Sp := fun vs H Q _ => ∃ (j p a : Addr) (cs : List Cp) (ys : List Str), vs = [.ref p, .ref a] ∧ Dx K H j (.ref p) (planD cs) ∧ cs.length ≤ 200 ∧ (∀ c ∈ cs, CpOk ys c) ∧ (∀ y ∈ ys, IsNm y) ∧ SqT K H a (ys.map V.str) ∧ ∀ H', Same H H' → Q .non H'
def spJoin : Sp := fun vs H Q _ => ∃ (a b : Addr) (xs ys : List Str), vs = [.ref a, .ref b] ∧ H a = some (.lst (xs.map V.str)) ∧ H b = some (.lst (ys.map V.str)) ∧ xs.length ≤ 100 ∧ ys.length ≤ 100 ∧
  ∀ (p : Addr) (H' : Hp), Same H H' → H p = none → H' p = some (.lst ((jb xs ys).map V.str)) → Q (.ref p) H'
theorem take_filter {α : Type} (p : α → Bool) {l : List α} {i : Nat} {x : α} (h : l[i]? = some x) : (l.take (i + 1)).filter p = (l.take i).filter p ++ (if p x = true then [x] else []) := by
  rw [List.take_add_one, h, List.filter_append]
  congr 1
  show List.filter p [x] = _
  rw [List.filter_cons]
  rfl
theorem inV_strs (x : Str) (ys : List Str) : inV (.str x) (ys.map V.str) = decide (x ∈ ys) := by
  unfold inV
  rw [List.any_map, Bool.eq_iff_iff, List.any_eq_true, decide_eq_true_eq]
  constructor
  · rintro ⟨y, hy, e⟩
    have e2 : decide (y = x) = true := e
    exact of_decide_eq_true e2 ▸ hy
  · intro h
    exact ⟨x, h, show decide (x = x) = true from decide_eq_true rfl⟩
theorem flat_strs (ys : List Str) : (ys.map V.str).all flatV = true := by
  rw [List.all_map, List.all_eq_true]
  intro y _
  rfl
section
variable {P : Program} {w : World} {K : PySem.W.Frag} {mg : Str → Option Value} {base : Heap}
theorem scFo : FnScope ["value", "name"] ["value"] (defScope sFolders) := ⟨rfl, rfl, rfl, by decide +kernel, rfl, by decide +kernel, by decide +kernel⟩
theorem ok_folders {f : Addr} {fd : FuncData} (F : Fun K "are_folders" "are_folders" sFolders f fd) (B : Bl mg) (G : Gm mg) (DN : Has P w K mg base CX0 1 "is_name" ["value"] (spD K isNameD)) :
    FnOk P w K mg base CX0 2 f fd ["value"] (spD K areFoldersD) := by
  obtain ⟨t2, g2⟩ := G.mf
  refine F.ok scFo (fun vs H Q E h => ?_) (fun cdv A outer s H vs Q E hr h => ?_)
  · obtain ⟨j, v, d, rfl, _⟩ := h
    rfl
  · obtain ⟨j, v, d, rfl, hx, hsm, q⟩ := h
    refine ⟨_, pss_cons (ps_if (PW.pt (pw_or (pt_not (pt_val (pe_callB call_isi (by rfl) B.isi (by decide +kernel) (pa_cons (pv 0) (pa_cons (pe_bltn (v := .ty "tuple") (u := .type "tuple") (by rfl) B.tuple (by decide +kernel) rfl) pa_nil)))))
          (pw_or1 (pt_not (pt_chain op_le op_le pe_int (pe_callB call_len_seq (by rfl) B.len PySem.boot_len (pa_cons (pv 0) pa_nil)) (pe_glob (v := .int 20) (by rfl) g2 ⟨_, rfl⟩))))))
        (pss_one (ps_ret pe_bl)) pss_nil)
      (pss_one (ps_ret (pe_and (pe_callB (cr_all rfl) (by rfl) B.all (by decide +kernel) (pa_cons (pe_lc (own := [("name", 1)]) (tt := tYes) rfl scFo.nd (pi_tup (pv 0)) (blkOk_by (N := ["value", "name"]) (sc := defScope sFolders) (by decide +kernel))
        (fun _ _ _ _ _ => pg_name (i := 1) scFo.nd rfl (.inl rfl)) (fun _ _ _ _ _ => pts_nil) (fun _ _ _ _ _ => pe_has DN hr pass0 (pa_cons (pv 1) pa_nil))) pa_nil))
        (pe_one (pe_cmpR op_eq (pe_lenSetT rfl (by rfl) B.len (by rfl) B.set (pv 0)) (pe_callB call_len_seq (by rfl) B.len PySem.boot_len (pa_cons (pv 0) pa_nil)) (nomark _)))))), ?_⟩
    have no : areFoldersD d = false → ∀ H', Same H H' → Q (.bl false) H' := fun e H' h => by rw [← e]; exact q H' h
    refine ⟨v, rfl, v, .ty "tuple", _, _, _, rfl, .ty "tuple", hx.ty, kit_ty (kit_tup d), _, rfl, ?_⟩
    cases hx with
    | @tup a xs ds haj hs ha =>
      have el := ha.len
      have rest : (1 ≤ ds.length ∧ ds.length ≤ 20) → areFoldersD (.tuple ds) = (ds.all isNameD && decide (strsOf ds).Nodup) := fun h => by
        show ((decide (1 ≤ ds.length) && decide (ds.length ≤ 20)) && _) = _
        rw [decide_eq_true h.1, decide_eq_true h.2]
        rfl
      have out : ¬ (1 ≤ ds.length ∧ ds.length ≤ 20) → areFoldersD (.tuple ds) = false := fun h => by
        show ((decide (1 ≤ ds.length) && decide (ds.length ≤ 20)) && _) = _
        by_cases h1 : 1 ≤ ds.length
        · rw [decide_eq_false (show ¬ ds.length ≤ 20 from fun z => h ⟨h1, z⟩), Bool.and_false, Bool.false_and]
        · rw [decide_eq_false h1, Bool.false_and, Bool.false_and]
      refine ⟨_, rfl, a, xs, rfl, .inr hs, 1, _, rfl, rfl, _, rfl, ?_⟩
      show if decide ((1 : Int) ≤ (xs.length : Int)) = true then _ else _
      refine ite2 (fun c => ?_) (fun c => ?_)
      · refine ⟨_, 20, rfl, rfl, _, rfl, ?_⟩
        show if (!decide ((xs.length : Int) ≤ 20)) = true then _ else _
        refine ite2 (fun c4 => ?_) (fun c4 => ?_)
        · refine no (out fun z => ?_) H (Same.refl H)
          rw [decide_eq_true (show (xs.length : Int) ≤ 20 by omega)] at c4
          exact nomatch c4
        · have lo : 1 ≤ xs.length := by have := of_decide_eq_true c; omega
          have hi : xs.length ≤ 20 := by
            by_cases z : (xs.length : Int) ≤ 20
            · omega
            · rw [decide_eq_false z] at c4
              exact absurd rfl c4
          have rest := rest (by omega)
          refine ⟨_, rfl, a, rfl, ⟨xs, hs⟩, fun D nD => ?_⟩
          refine lc_it walk_tup (fun i H' => H' D = some (.lst (((ds.take i).map isNameD).map V.bl)) ∧ Same H H') ⟨upd_same, same_new nD⟩ (fun i H' _ h => same_t h.2 hs) ?_ ?_
          · rintro i x H1 H2 hi9 ⟨hD, e1⟩ ⟨rfl, hc⟩
            obtain ⟨di, hdi, hxi⟩ := ha.get hc
            refine ⟨rfl, ⟨x, rfl, j, x, di, rfl, hxi.same e1, smAll_mem (by simpa [smD] using hsm) (List.mem_of_getElem? hdi), fun H3 e3 => ?_⟩⟩
            refine ⟨_, e3 _ _ hD, ?_, ?_, same_up (e1.trans e3) nD⟩
            · rw [List.length_map, List.length_map, List.length_take]
              exact small1000 (by omega)
            · rw [upd_same, List.take_add_one, hdi, List.map_append, List.map_append]
              rfl
          rintro H1 ⟨hD, e1⟩
          refine ⟨D, _, rfl, sqOf0 hD, _, rfl, ?_⟩
          have e : ((ds.take xs.length).map isNameD).all id = ds.all isNameD := by
            rw [List.take_of_length_le (by omega), List.all_map]
            rfl
          rw [e]
          refine ite2 (fun cA => ?_) (fun cA => ?_)
          · obtain ⟨ev, ln⟩ := names_vals ha cA
            have hs1 : SqT K H1 a ((strsOf ds).map V.str) := ev ▸ same_t e1 hs
            refine ⟨_, rfl, a, strsOf ds, rfl, hs1, by omega, _, rfl, a, _, rfl, .inr hs1, rfl, ?_⟩
            have e9 : decide (V.int ((ded (strsOf ds)).length : Int) = V.int (((strsOf ds).map V.str).length : Int)) = areFoldersD (.tuple ds) := by
              rw [rest, cA, Bool.true_and, List.length_map]
              by_cases nd : (strsOf ds).Nodup
              · rw [decide_eq_true nd, ded_nodup nd, decide_eq_true rfl]
              · rw [decide_eq_false nd, decide_eq_false fun z => ded_dup nd (by injection z with z; omega)]
            show Q (.bl (decide (V.int ((ded (strsOf ds)).length : Int) = V.int (((strsOf ds).map V.str).length : Int)))) H1
            rw [e9]
            exact q H1 e1
          · refine no ?_ H1 e1
            rw [rest, Bool.eq_false_iff.mpr cA, Bool.false_and]
      · refine ⟨_, rfl, ?_⟩
        show if (!false) = true then _ else _
        refine no (out fun z => c (decide_eq_true (show (1 : Int) ≤ (xs.length : Int) by omega))) H (Same.refl H)
    | non => exact no rfl H (Same.refl H)
    | bl b => exact no rfl H (Same.refl H)
    | int i => exact no rfl H (Same.refl H)
    | str _ => exact no rfl H (Same.refl H)
    | lst _ _ _ => exact no rfl H (Same.refl H)
    | dic _ _ _ => exact no rfl H (Same.refl H)
theorem scCf : FnScope ["folders"] ["folders"] (defScope sChkF) := ⟨rfl, rfl, rfl, by decide +kernel, rfl, by decide +kernel, by decide +kernel⟩
theorem ok_chkF {f : Addr} {fd : FuncData} (F : Fun K "check_folders" "check_folders" sChkF f fd) (DF : Has P w K mg base CX0 2 "are_folders" ["value"] (spD K areFoldersD)) : FnOk P w K mg base CX0 3 f fd ["folders"] (spOk K areFoldersD) := by
  refine F.ok scCf (fun vs H Q E h => ?_) (fun cdv A outer s H vs Q E hr h => ?_)
  · obtain ⟨j, v, d, rfl, _⟩ := h
    rfl
  · obtain ⟨j, v, d, rfl, hx, hsm, hg, q⟩ := h
    refine ⟨_, pss_one (ps_if (pt_not (pt_val (pe_has DF hr pass0 (pa_cons (pv 0) pa_nil)))) (pss_one ps_dead) pss_nil), ?_⟩
    refine ⟨v, rfl, j, v, d, rfl, hx, hsm, fun H' e => ⟨_, rfl, ?_⟩⟩
    rw [hg]
    exact q H' e
theorem scJn : FnScope ["ahead", "behind", "name"] ["ahead", "behind"] (defScope sJoin) := ⟨rfl, rfl, rfl, by decide +kernel, rfl, by decide +kernel, by decide +kernel⟩
theorem ok_join {f : Addr} {fd : FuncData} (F : Fun K "joined_behind" "joined_behind" sJoin f fd) : FnOk P w K mg base CX0 1 f fd ["ahead", "behind"] spJoin := by
  refine F.ok scJn (fun vs H Q E h => ?_) (fun cdv A outer s H vs Q E hr h => ?_)
  · obtain ⟨a, b, xs, ys, rfl, _⟩ := h
    rfl
  · obtain ⟨a, b, xs, ys, rfl, ha, hb, la, lb, q⟩ := h
    refine ⟨_, pss_one (ps_ret (pe_op op_cat (pv 0) (pe_lc (own := [("name", 2)]) (tt := tTest (tOp (rIn K true) (tVar 2) (tVar 0))) (te := tVar 2) rfl scJn.nd (pi_list (pv 1)) (blkOk_by (N := ["ahead", "behind", "name"]) (sc := defScope sJoin) (by decide +kernel))
        (fun _ _ _ _ _ => pg_name (i := 2) scJn.nd rfl (.inl rfl)) (fun _ _ _ _ _ => pts_one (pt_cmpR op_notIn_seq (pv 2) (pv 0) rfl)) (fun _ _ _ _ _ => pv 2)))), ?_⟩
    refine ⟨_, rfl, _, rfl, b, rfl, ⟨_, sqOf0 hb⟩, fun D nD => ?_⟩
    have hab : ∀ H', Same H H' → H' a = some (.lst (xs.map V.str)) := fun H' e => e _ _ ha
    refine lc_it (walk_list (xs := ys.map V.str)) (fun i H' => H' D = some (.lst (((ys.take i).filter fun y => !decide (y ∈ xs)).map V.str)) ∧ Same H H') ⟨upd_same, same_new nD⟩ (fun i H' _ h => sqOf0 (h.2 _ _ hb)) ?_ ?_
    · rintro i x H1 H2 hi ⟨hD, e1⟩ ⟨rfl, hc⟩
      obtain ⟨y, hy, rfl⟩ : ∃ y, ys[i]? = some y ∧ x = .str y := by
        rw [List.getElem?_map] at hc
        cases h : ys[i]? with
        | none => rw [h] at hc; cases hc
        | some y => rw [h] at hc; cases hc; exact ⟨y, rfl, rfl⟩
      have e9 := take_filter (fun y => !decide (y ∈ xs)) hy
      refine ⟨rfl, _, rfl, _, rfl, a, _, rfl, .inl (sqOf0 (e1 _ _ ha)), rfl, flat_strs xs, _, rfl, ?_⟩
      show if (!inV (.str y) (xs.map V.str)) = true then _ else _
      rw [inV_strs]
      refine ite2 (fun k => ?_) (fun k => ?_)
      · refine ⟨_, rfl, _, hD, ?_, ?_, same_up e1 nD⟩
        · rw [List.length_map]
          exact Nat.lt_of_le_of_lt (List.length_filter_le _ _) (Nat.lt_of_le_of_lt (List.length_take_le _ _) (small1000 (by rw [List.length_map] at hi; omega)))
        · rw [upd_same, e9, if_pos k, List.map_append]
          rfl
      · refine ⟨?_, e1⟩
        rw [hD, e9, if_neg k, List.append_nil]
    · rintro H1 ⟨hD, e1⟩
      rw [List.take_of_length_le (by rw [List.length_map]; exact Nat.le_refl _)] at hD
      refine ⟨a, D, _, _, rfl, rfl, e1 _ _ ha, hD, ?_, fun p np => ?_⟩
      · rw [List.length_map, List.length_map]
        have := List.length_filter_le (fun y => !decide (y ∈ xs)) ys
        exact Nat.le_trans (show xs.length + (ys.filter fun y => !decide (y ∈ xs)).length ≤ 1000 by omega) (by decide)
      · refine q p _ (same_up e1 (e1.free np)) (e1.free np) ?_
        rw [upd_same, jb, List.map_append]
end
end Cv


/-! part K11F -/
set_option maxRecDepth 100000
set_option maxHeartbeats 4000000
namespace Cv
open PySem PySem.Spec PyProof.Rows L2
section
variable {P : Program} {w : World} {K : PySem.W.Frag} {mg : Str → Option Value} {base : Heap}
theorem scP : FnScope ["jar", "names_here", "most", "many", "way", "found", "turn", "one", "two", "word"] ["jar", "names_here", "most"] (defScope sPlan) := ⟨rfl, rfl, rfl, by decide +kernel, rfl, by decide +kernel, by decide +kernel⟩
structure PlSt (K : PySem.W.Frag) (H0 H : Hp) (j Fd : Addr) (n i mo : Nat) (ys : List Str) (ps : List Addr) (cs : List Cp) (l : List V) : Prop where
  ej : Eff j H0 H
  hj : H j = some (.lst l)
  jl : JarL l (n + 2 + 8 * i)
  hF : H Fd = some (.lst (ps.map V.ref))
  nF : Fd ≠ j
  fF : H0 Fd = none
  pc : Paired (CpAt H) ps cs
  pl : ps.length = i
  co : ∀ c ∈ cs, CpOk ys c
  two : 0 < i → 2 ≤ ys.length
theorem paired_len {α β : Type} {R : α → β → Prop} {l : List α} {m : List β} (h : Paired R l m) : l.length = m.length := Paired.length h
theorem ok_plan {f : Addr} {fd : FuncData} (F : Fun K "_law_plan" "_law_plan" sPlan f fd) (B : Bl mg) (DD : Has P w K mg base CX0 1 "_law_dip" ["jar", "many"] spDip) :
    FnOk P w K mg base CX0 2 f fd ["jar", "names_here", "most"] (spPlan K) := by
  refine F.ok scP (fun vs H Q E h => ?_) (fun cdv A outer s H vs Q E hr h => ?_)
  · obtain ⟨j, a, l, mo, n, ys, rfl, _⟩ := h
    rfl
  · obtain ⟨j, a, l, mo, n, ys, rfl, hj, jl, hn, hS, haj, y1, y20, ynd, m0, m1, q⟩ := h
    refine ⟨_, pss_cons (ps_par3 (i := 3) (j := 4) (l := 5) rfl scP.nd rfl rfl rfl (by decide) (by decide) (by decide) rfl rfl rfl
        (pa_cons (pe_callB call_len_seq (by rfl) B.len PySem.boot_len (pa_cons (pv 1) pa_nil)) (pa_cons (pe_has DD hr pass0 (pa_cons (pv 0) (pa_cons pe_int pa_nil))) (pa_cons (pe_lst pa_nil) pa_nil))) rfl)
      (pss_cons (ps_for PassesOwn.never rfl (pi_range1 (by rfl) B.range (pa_cons (pe_op op_mul (pe_has DD hr pass0 (pa_cons (pv 0) (pa_cons (pe_op op_add (pv 2) pe_int) pa_nil)))
            (pe_callTy call_int1 (by rfl) B.int (by decide +kernel) (pa_cons (pe_cmpR op_gt (pv 3) pe_int (nomark _)) pa_nil))) pa_nil)) (pg_name (i := 6) scP.nd rfl (.inl rfl))
        (pss_cons (ps_par (i := 7) (j := 8) rfl scP.nd rfl rfl (by decide) rfl rfl (pa_cons (pe_has DD hr pass0 (pa_cons (pv 0) (pa_cons (pv 3) pa_nil))) (pa_cons (pe_has DD hr pass0 (pa_cons (pv 0) (pa_cons (pv 3) pa_nil))) pa_nil)) rfl)
        (C8.pss_cut (ps_if (pt_cmpR op_eq (pv 4) pe_int (nomark _))
          (pss_one (ps_par (i := 7) (j := 8) rfl scP.nd rfl rfl (by decide) rfl rfl (pa_cons (pe_op op_mod (pe_op op_add (pv 6) pe_int) (pv 3)) (pa_cons (pe_op op_mod (pv 6) (pv 3)) pa_nil)) rfl)) pss_nil)
        (C8.pss_cut (ps_if (pt_cmpR op_eq (pv 4) pe_int (nomark _)) (pss_one (ps_set (i := 8) scP.nd rfl (.inl rfl) pe_int)) pss_nil)
        (C8.pss_cut (ps_if (pt_cmpR op_eq (pv 4) pe_int (nomark _)) (pss_one (ps_set (i := 7) scP.nd rfl (.inl rfl) pe_int)) pss_nil)
        (C8.pss_cut (ps_if (pt_cmpR op_eq (pv 4) pe_int (nomark _))
          (pss_one (ps_par (i := 7) (j := 8) rfl scP.nd rfl rfl (by decide) rfl rfl
            (pa_cons (pe_has DD hr pass0 (pa_cons (pv 0) (pa_cons (pe_callB (call_min2 rfl) (by rfl) B.min (by decide +kernel) (pa_cons (pv 3) (pa_cons pe_int pa_nil))) pa_nil)))
            (pa_cons (pe_has DD hr pass0 (pa_cons (pv 0) (pa_cons (pe_callB (call_min2 rfl) (by rfl) B.min (by decide +kernel) (pa_cons (pv 3) (pa_cons pe_int pa_nil))) pa_nil))) pa_nil)) rfl)) pss_nil)
        (C8.pss_cut (ps_set (i := 8) scP.nd rfl (.inl rfl) (pe_ifExp (pt_cmpR op_ne (pv 8) (pv 7) (nomark _)) (pv 8) (pe_op op_mod (pe_op op_add (pv 7) pe_int) (pv 3))))
        (pss_cons (ps_set (i := 9) scP.nd rfl (.inl rfl) (pe_ix ix_list (pe_lst (pa_cons pe_str (pa_cons pe_str pa_nil)))
          (pe_ix ix_list (pe_lst (pa_cons (pe_has DD hr pass0 (pa_cons (pv 0) (pa_cons pe_int pa_nil))) (pa_cons pe_int (pa_cons (pe_callTy call_int1 (by rfl) B.int (by decide +kernel) (pa_cons (pe_cmpR op_eq (pe_op op_mod (pv 6) pe_int) pe_int (nomark _)) pa_nil)) pa_nil))))
            (pe_op op_mod (pv 4) pe_int) (fun _ _ => rfl)) (fun _ _ => rfl)))
        (pss_one (ps_expr (pe_bm PySem.F.plainAttrs_list PySem.F.slot_list_append PySem.F.type_list_append mt_append (pv 5)
          (pa_cons (pe_tup (pa_cons (pv 9) (pa_cons (pe_ix ix_tup (pv 1) (pv 7) (fun _ _ => rfl)) (pa_cons (pe_ix ix_tup (pv 1) (pv 8) (fun _ _ => rfl)) pa_nil)))) pa_nil))))))))))))
      (pss_one (ps_ret (pe_callTy call_tuple_of (by rfl) B.tuple (by decide +kernel) (pa_cons (pv 5) pa_nil))))), ?_⟩
    -- many, way, found
    refine ⟨_, rfl, a, _, rfl, .inr hS, _, rfl, j, l, 6, n, rfl, hj, jl, by omega, by decide, by decide, fun way l1 wa0 wa1 jl1 => ⟨Nat.zero_le _, fun Fd nF => ⟨_, _, _, rfl, ?_⟩⟩⟩
    have nF0 : Fd ≠ j := (ne_of_none upd_same nF).symm
    have fF : H Fd = none := (upd_ne (H := H) nF0).symm.trans nF
    have hj1 : upd (upd H j (.lst l1)) Fd (.lst []) j = some (.lst l1) := (upd_ne nF0.symm).trans upd_same
    -- the range
    refine ⟨_, rfl, _, rfl, mo, 1, rfl, rfl, j, l1, mo + 1, n + 1, rfl, hj1, jl1, by omega, by omega, by omega, fun d l2 d0 d1 jl2 => ?_⟩
    generalize hH2 : upd (upd (upd H j (.lst l1)) Fd (.lst [])) j (.lst l2) = H2
    have e2 : Eff j H H2 := by rw [← hH2]; exact (((Eff.refl j H).atj).new fF).atj
    have hj2 : H2 j = some (.lst l2) := by rw [← hH2]; exact upd_same
    have hF2 : H2 Fd = some (.lst []) := by rw [← hH2, upd_ne nF0]; exact upd_same
    obtain ⟨T, hT, hT2, hT3⟩ : ∃ T : Int, d * (if decide ((1 : Int) < ((ys.map V.str).length : Int)) = true then 1 else 0) = T ∧ (0 ≤ T ∧ T ≤ mo) ∧ (0 < T → 2 ≤ ys.length) := by
      refine ⟨_, rfl, ?_, ?_⟩
      · split <;> omega
      · rw [List.length_map]
        by_cases c : (1 : Int) < (ys.length : Int)
        · intro _; omega
        · rw [decide_eq_false c]
          intro z
          simp at z
    refine ⟨_, rfl, _, 1, rfl, rfl, .inr ⟨_, rfl, d, _, rfl, rfl, .inl ⟨by omega, by omega⟩, T, by rw [← hT], by omega, by omega, ?_⟩⟩
    have lenM : ((ys.map V.str).length : Int) = (ys.length : Int) := by rw [List.length_map]
    refine for_range (lo := 0) (n := T.toNat) (fun i σ H' => ∃ x6 x7 x8 x9 ps cs l', σ = [some (.ref j), some (.ref a), some (.int mo), some (.int ((ys.map V.str).length : Int)), some (.int way), some (.ref Fd), x6, x7, x8, x9] ∧
      PlSt K H H' j Fd n i mo.toNat ys ps cs l' ∧ (i : Int) ≤ T) ?_ ?_ ?_
    · exact ⟨none, none, none, none, [], [], l2, rfl, ⟨e2, hj2, jl2.mono (by omega), hF2, nF0, fF, .nil, rfl, (fun _ z => nomatch z), fun z => absurd z (by decide)⟩, by omega⟩
    · rintro i σ H3 hi ⟨x6, x7, x8, x9, ps, cs, l3, rfl, S, hiT⟩
      have M2 : 2 ≤ ys.length := hT3 (by omega)
      have hi200 : i < 200 := by omega
      rw [lenM]
      -- one, two
      refine ⟨_, rfl, _, rfl, j, l3, _, n + 2 + 8 * i, rfl, S.hj, S.jl, by omega, by omega, by omega, fun o l4 o0 o1 jl4 => ?_⟩
      refine ⟨_, rfl, _, rfl, j, l4, _, n + 2 + 8 * i + 1, rfl, upd_same, jl4, by omega, by omega, by omega, fun t l5 t0 t1 jl5 => ?_⟩
      refine ⟨_, _, rfl, ?_⟩
      have S3 : Eff j H3 (upd (upd H3 j (.lst l4)) j (.lst l5)) := ((Eff.refl j H3).atj).atj
      have S3j : (upd (upd H3 j (.lst l4)) j (.lst l5)) j = some (.lst l5) := upd_same
      generalize upd (upd H3 j (.lst l4)) j (.lst l5) = H5 at S3 S3j
      -- way == 1
      refine ⟨fun σ' H' => (∃ (o t : Int) (x9 : Option V), σ' = [some (.ref j), some (.ref a), some (.int mo), some (.int (ys.length : Int)), some (.int way), some (.ref Fd), some (.int (0 + (i : Int))), some (.int o), some (.int t), x9] ∧
          (0 ≤ o ∧ o < (ys.length : Int)) ∧ (0 ≤ t ∧ t < (ys.length : Int)) ∧ Eff j H3 H' ∧ ∃ l, H' j = some (.lst l) ∧ JarL l (n + 2 + 8 * i + 2 + 0)), ?_, ?_⟩
      · refine ⟨_, rfl, rfl, _, rfl, ite2 (fun _ => ?_) (fun _ => ?_)⟩
        · refine ⟨_, rfl, _, 1, rfl, rfl, _, rfl, _, _, rfl, rfl, (show (0 : Int) < (ys.length : Int) by omega), _, rfl, _, rfl, _, _, rfl, rfl, (show (0 : Int) < (ys.length : Int) by omega), _, _, rfl, ?_⟩
          exact ⟨_, _, x9, rfl, ⟨Int.emod_nonneg _ (by omega), Int.emod_lt_of_pos _ (by omega)⟩, ⟨Int.emod_nonneg _ (by omega), Int.emod_lt_of_pos _ (by omega)⟩, S3, _, S3j, jl5.mono (by omega)⟩
        · exact ⟨o, t, x9, rfl, ⟨o0, o1⟩, ⟨t0, t1⟩, S3, _, S3j, jl5.mono (by omega)⟩
      clear o0 o1 t0 t1 S3 S3j jl5 jl4
      rintro σ4 H4 ⟨o, t, y9, rfl, o01, t01, e4, l6, hj4, jl6⟩
      refine ⟨fun σ' H' => (∃ (o t : Int) (x9 : Option V), σ' = [some (.ref j), some (.ref a), some (.int mo), some (.int (ys.length : Int)), some (.int way), some (.ref Fd), some (.int (0 + (i : Int))), some (.int o), some (.int t), x9] ∧
          (0 ≤ o ∧ o < (ys.length : Int)) ∧ (0 ≤ t ∧ t < (ys.length : Int)) ∧ Eff j H3 H' ∧ ∃ l, H' j = some (.lst l) ∧ JarL l (n + 2 + 8 * i + 2 + 0)), ?_, ?_⟩
      · refine ⟨_, rfl, rfl, _, rfl, ite2 (fun _ => ?_) (fun _ => ?_)⟩
        · exact ⟨o, 0, y9, rfl, o01, ⟨by decide, by omega⟩, e4, _, hj4, jl6⟩
        · exact ⟨o, t, y9, rfl, o01, t01, e4, _, hj4, jl6⟩
      clear o01 t01 e4 hj4 jl6
      rintro σ4 H4 ⟨o, t, y9, rfl, o01, t01, e4, l6, hj4, jl6⟩
      refine ⟨fun σ' H' => (∃ (o t : Int) (x9 : Option V), σ' = [some (.ref j), some (.ref a), some (.int mo), some (.int (ys.length : Int)), some (.int way), some (.ref Fd), some (.int (0 + (i : Int))), some (.int o), some (.int t), x9] ∧
          (0 ≤ o ∧ o < (ys.length : Int)) ∧ (0 ≤ t ∧ t < (ys.length : Int)) ∧ Eff j H3 H' ∧ ∃ l, H' j = some (.lst l) ∧ JarL l (n + 2 + 8 * i + 2 + 0)), ?_, ?_⟩
      · refine ⟨_, rfl, rfl, _, rfl, ite2 (fun _ => ?_) (fun _ => ?_)⟩
        · exact ⟨0, t, y9, rfl, ⟨by decide, by omega⟩, t01, e4, _, hj4, jl6⟩
        · exact ⟨o, t, y9, rfl, o01, t01, e4, _, hj4, jl6⟩
      clear o01 t01 e4 hj4 jl6
      rintro σ4 H4 ⟨o, t, y9, rfl, o01, t01, e4, l6, hj4, jl6⟩
      refine ⟨fun σ' H' => (∃ (o t : Int) (x9 : Option V), σ' = [some (.ref j), some (.ref a), some (.int mo), some (.int (ys.length : Int)), some (.int way), some (.ref Fd), some (.int (0 + (i : Int))), some (.int o), some (.int t), x9] ∧
          (0 ≤ o ∧ o < (ys.length : Int)) ∧ (0 ≤ t ∧ t < (ys.length : Int)) ∧ Eff j H3 H' ∧ ∃ l, H' j = some (.lst l) ∧ JarL l (n + 2 + 8 * i + 2 + 2)), ?_, ?_⟩
      · refine ⟨_, rfl, rfl, _, rfl, ite2 (fun _ => ?_) (fun _ => ?_)⟩
        · refine ⟨_, rfl, _, rfl, _, 3, rfl, j, l6, _, n + 2 + 8 * i + 2, rfl, hj4, jl6, by omega, by split <;> omega, by split <;> omega, fun o' l7 p0 p1 jl7 => ?_⟩
          refine ⟨_, rfl, _, rfl, _, 3, rfl, j, l7, _, n + 2 + 8 * i + 2 + 1, rfl, upd_same, jl7, by omega, by split <;> omega, by split <;> omega, fun t' l8 q0 q1 jl8 => ?_⟩
          refine ⟨_, _, rfl, o', t', y9, rfl, ⟨p0, ?_⟩, ⟨q0, ?_⟩, (e4.atj).atj, _, upd_same, jl8.mono (by omega)⟩
          · revert p1; split <;> (intro p1; omega)
          · revert q1; split <;> (intro q1; omega)
        · exact ⟨o, t, y9, rfl, o01, t01, e4, _, hj4, jl6.mono (by omega)⟩
      clear o01 t01 e4 hj4 jl6
      rintro σ4 H4 ⟨o, t, y9, rfl, o01, t01, e4, l6, hj4, jl6⟩
      -- two is another one
      refine ⟨fun σ' H' => (∃ (o t : Int) (x9 : Option V), σ' = [some (.ref j), some (.ref a), some (.int mo), some (.int (ys.length : Int)), some (.int way), some (.ref Fd), some (.int (0 + (i : Int))), some (.int o), some (.int t), x9] ∧
          (0 ≤ o ∧ o < (ys.length : Int)) ∧ (0 ≤ t ∧ t < (ys.length : Int) ∧ t ≠ o) ∧ Eff j H3 H' ∧ ∃ l, H' j = some (.lst l) ∧ JarL l (n + 2 + 8 * i + 4)), ?_, ?_⟩
      · refine ⟨_, rfl, _, rfl, rfl, _, rfl, ite2 (fun c => ?_) (fun c => ?_)⟩
        · have c' : t ≠ o := fun z => by
            subst z
            simp at c
          exact ⟨_, rfl, o, t, y9, rfl, o01, ⟨t01.1, t01.2, c'⟩, e4, _, hj4, jl6⟩
        · obtain ⟨z1, z2, z3⟩ := next_ne o01.1 o01.2 (show (2 : Int) ≤ (ys.length : Int) by omega)
          exact ⟨_, rfl, _, 1, rfl, rfl, _, rfl, _, _, rfl, rfl, (show (0 : Int) < (ys.length : Int) by omega), o, _, y9, rfl, o01, ⟨z1, z2, z3⟩, e4, _, hj4, jl6⟩
      clear o01 t01 e4 hj4 jl6
      rintro σ4 H4 ⟨o, t, y9, rfl, o01, t01, e4, l6, hj4, jl6⟩
      -- word
      refine ⟨by decide, fun p1 np1 => ?_⟩
      have p1j : p1 ≠ j := (ne_of_none hj4 np1).symm
      refine ⟨_, rfl, j, l6, 2, n + 2 + 8 * i + 4, rfl, (upd_ne p1j.symm).trans hj4, jl6, by omega, by decide, by decide, fun d2 l7 d20 d21 jl7 => ?_⟩
      refine ⟨_, rfl, _, 5, rfl, rfl, (by show (0 : Int) < 5; decide), rfl, .inr ⟨_, rfl, ?_⟩⟩
      refine ⟨by show 3 ≤ sizeLine; decide, fun p2 np2 => ?_⟩
      have np2' : upd H4 p1 (.lst [V.str (Str.ofString "over"), V.str (Str.ofString "skip")]) p2 = none := (upd_ne (fun z => by rw [z, upd_same] at np2; cases np2)).symm.trans np2
      have p2j : p2 ≠ j := fun z => by rw [z, upd_same] at np2; cases np2
      have p12 : p1 ≠ p2 := ne_of_none upd_same np2'
      have np2'' : H4 p2 = none := (upd_ne (H := H4) p12.symm).symm.trans np2'
      obtain ⟨v, hv, v0, v1⟩ := pick012 (w := way % 3) (Int.emod_nonneg _ (by decide)) (Int.emod_lt_of_pos _ (by decide)) d20 d21 (b := if decide (V.int ((0 + (i : Int)) % 5) = V.int 4) = true then 1 else 0) (by split <;> decide) (by split <;> decide)
      obtain ⟨wd, hw, wok⟩ := pickW v0 v1
      refine ⟨_, rfl, way, 3, rfl, rfl, (by show (0 : Int) < 3; decide), p2, _, _, _, rfl, rfl, sqOf upd_same, hv, p1, _, v, _, rfl, rfl, sqOf ?_, hw, ?_⟩
      · rw [upd_ne p12, upd_ne p1j, upd_same]
      generalize hH8 : upd (upd (upd H4 p1 (.lst [V.str (Str.ofString "over"), V.str (Str.ofString "skip")])) j (.lst l7)) p2 _ = H8
      have e8 : Eff j H3 H8 := by rw [← hH8]; exact ((e4.new (e4.free p1j np1)).atj).new (e4.free p2j np2'')
      have hj8 : H8 j = some (.lst l7) := by rw [← hH8, upd_ne p2j.symm]; exact upd_same
      have e08 := S.ej.trans e8
      have hF8 := e8 Fd _ S.nF S.hF
      have hS8 : SqT K H8 a (ys.map V.str) := eff_t e08 haj hS
      obtain ⟨ya, ha1, ha2⟩ := atT o01.1 o01.2
      obtain ⟨yb, hb1, hb2⟩ := atT t01.1 t01.2.1
      -- found.append
      refine ⟨_, rfl, .inl ⟨rfl, _, sqOf hF8⟩, _, rfl, _, rfl, _, rfl, a, _, o, _, rfl, rfl, hS8, ha1, _, rfl, _, rfl, a, _, t, _, rfl, rfl, hS8, hb1, by show 3 ≤ sizeLine; decide, fun p np => ?_⟩
      have pj : p ≠ j := (ne_of_none hj8 np).symm
      have npH3 : H3 p = none := e8.free pj np
      have npH : H p = none := e08.free pj np
      have hFp := (upd_ne (H := H8) (o := .tup [V.str wd, V.str ya, V.str yb]) (ne_of_none hF8 np)).trans hF8
      refine ⟨Fd, _, _, rfl, rfl, hFp, by rw [List.length_map, S.pl]; exact small1000 (by omega), ?_⟩
      have kt : KeepT H3 (upd (upd H8 p (.tup [V.str wd, V.str ya, V.str yb])) Fd (.lst (ps.map V.ref ++ [V.ref p]))) := ((KeepT.eff e8 S.hj).updN np).updL hFp
      refine ⟨_, _, _, _, ps ++ [p], cs ++ [(wd, ya, yb)], l7, rfl, ⟨?_, ?_, jl7.mono (by omega), ?_, S.nF, S.fF, ?_, by rw [List.length_append, S.pl]; rfl, ?_, fun _ => M2⟩, by omega⟩
      · exact (e08.new npH).new S.fF
      · rw [upd_ne S.nF.symm, upd_ne pj.symm]
        exact hj8
      · rw [upd_same, List.map_append]
        rfl
      · refine paired_snoc (Paired.mapP S.pc fun x c hx => kt _ _ hx) ?_
        show upd _ _ _ p = some (.tup (cpV (wd, ya, yb)))
        rw [upd_ne (ne_of_none hF8 np).symm, upd_same]
        rfl
      · intro c hc
        rcases List.mem_append.mp hc with z | z
        · exact S.co c z
        · have : c = (wd, ya, yb) := by simpa using z
          subst this
          refine ⟨wok, List.mem_of_getElem? ha2, List.mem_of_getElem? hb2, fun z => ?_⟩
          have z' : ya = yb := z
          subst z'
          have l1 := (List.getElem?_eq_some_iff.mp ha2)
          have l2 := (List.getElem?_eq_some_iff.mp hb2)
          obtain ⟨q1, q2⟩ := l1
          obtain ⟨q3, q4⟩ := l2
          have := (List.getElem_inj ynd).mp (q2.trans q4.symm)
          omega
    · rintro σ H3 ⟨x6, x7, x8, x9, ps, cs, l3, rfl, S, hiT⟩
      refine ⟨_, rfl, Fd, _, rfl, .inl ⟨sqOf S.hF, fun p np => ?_⟩⟩
      have pj : p ≠ j := (ne_of_none S.hj np).symm
      have hj9 := (upd_ne (H := H3) (o := .tup (ps.map V.ref)) pj.symm).trans S.hj
      refine q p cs l3 _ ⟨?_, S.co, fun z => ?_⟩ ?_ hj9 (S.jl.mono (by omega)) (S.ej.new (S.ej.free pj np))
      · have h1 := paired_len S.pc
        have h2 := S.pl
        omega
      · have h1 := paired_len S.pc
        have h2 := S.pl
        have h3 : ¬ 0 < T.toNat := fun h => by have := S.two h; omega
        cases cs with
        | nil => rfl
        | cons c r => rw [List.length_cons] at h1; omega
      · exact .tup pj (stOf upd_same) (plan_dx hj9 (Paired.mapP S.pc fun x c hx => (upd_ne (ne_of_none hx np)).trans hx))
end
end Cv


/-! part K11S -/
set_option maxRecDepth 100000
set_option maxHeartbeats 4000000
namespace Cv
open PySem PySem.Spec PyProof.Rows L2
structure CpNm (c : Cp) : Prop where
  w : Word c.1
  a : IsNm c.2.1
  b : IsNm c.2.2
theorem cp_inv {K : PySem.W.Frag} {H : Hp} {j : Addr} {x : V} {c : Cp} (h : Dx K H j x (cpD c)) : ∃ a, x = .ref a ∧ a ≠ j ∧ SqT K H a (cpV c) := by
  unfold cpD at h
  cases h with
  | @tup a xs ds n s t =>
    refine ⟨a, rfl, n, ?_⟩
    cases t with
    | cons h1 t =>
      cases t with
      | cons h2 t =>
        cases t with
        | cons h3 t =>
          cases t
          cases h1
          cases h2
          cases h3
          exact s
theorem nm_gd {x : Str} (h : IsNm x) (k : Nat) : Gd (.str x) 8 k := .str (fun c hc => by have := h.2.2 c hc; omega) h.2.1 (by decide) k
theorem word_gd {x : Str} (h : Word x) (k : Nat) : Gd (.str x) 4 k := by
  rcases h with rfl | rfl
  · exact .str (by decide +kernel) (by decide +kernel) (by decide) k
  · exact .str (by decide +kernel) (by decide +kernel) (by decide) k
theorem lit_gd {x : Str} {n : Nat} (h : (x.cps.toList.all fun c => decide (c < 1000000)) = true) (hl : x.length ≤ n) (hn : n ≤ 10000) (k : Nat) : Gd (.str x) n k :=
  .str (fun c hc => of_decide_eq_true (List.all_eq_true.mp h c hc)) hl hn k
theorem plan_gds : ∀ {cs : List Cp} {ys : List Str}, (∀ c ∈ cs, CpOk ys c) → (∀ y ∈ ys, IsNm y) → Gds (cs.map cpD) (24 * cs.length) 1
  | [], _, _, _ => .nil 1
  | c :: cs, ys, h, hn => by
    have hc := h c List.mem_cons_self
    have t := plan_gds (fun d hd => h d (List.mem_cons_of_mem _ hd)) hn
    have g : Gd (cpD c) 23 1 := Gd.mono (Gd.tup (.cons (word_gd hc.w 0) (.cons (nm_gd (hn _ hc.a) 0) (.cons (nm_gd (hn _ hc.b) 0) (.nil 0))))) (by decide) (by decide)
    have e : 24 * (c :: cs).length = 23 + 1 + 24 * cs.length := by rw [List.length_cons]; omega
    rw [e]
    exact .cons g t
theorem plan_lay : ∀ {cs : List Cp} {ys : List Str}, (∀ c ∈ cs, CpOk ys c) → (∀ y ∈ ys, IsNm y) → PyData.canLayAll0 (cs.map cpD) = true
  | [], _, _, _ => rfl
  | c :: cs, ys, h, hn => by
    have hc := h c List.mem_cons_self
    have t := plan_lay (fun d hd => h d (List.mem_cons_of_mem _ hd)) hn
    have so : ∀ {y : Str}, IsNm y → (PyData.str y).canLay0 = true := fun {y} hy => by
      simp only [PyData.canLay0, PyData.strOk, Array.all_eq_true_iff_forall_mem, decide_eq_true_eq]
      intro d hd
      have := hy.2.2 d (Array.mem_toList_iff.mpr hd)
      omega
    have sw : ∀ {y : Str}, Word y → (PyData.str y).canLay0 = true := fun {y} hy => by
      rcases hy with rfl | rfl
      · decide +kernel
      · decide +kernel
    show (PyData.canLay0 (cpD c) && PyData.canLayAll0 (cs.map cpD)) = true
    rw [t, Bool.and_true]
    show ((PyData.str c.1).canLay0 && ((PyData.str c.2.1).canLay0 && ((PyData.str c.2.2).canLay0 && true))) = true
    rw [sw hc.w, so (hn _ hc.a), so (hn _ hc.b)]
    rfl
theorem plan_shaped {cs : List Cp} {ys : List Str} (h : ∀ c ∈ cs, CpOk ys c) (hn : ∀ y ∈ ys, IsNm y) : SeqAt.shaped (planD cs) = true := by
  have g : (planD cs).depth ≤ 64 := Nat.le_trans (Gd.tup (plan_gds h hn)).dp (by decide)
  have g2 : (planD cs).canLay0 = true := plan_lay h hn
  show ((planD cs).canLay0 && decide ((planD cs).depth ≤ 64)) = true
  rw [g2, decide_eq_true g]
  rfl
theorem plan_cp {cs : List Cp} {ys : List Str} (h : ∀ c ∈ cs, CpOk ys c) (hn : ∀ y ∈ ys, IsNm y) : ∀ c ∈ cs, CpNm c := fun c hc => ⟨(h c hc).w, hn _ (h c hc).a, hn _ (h c hc).b⟩
theorem ref_inv {K : PySem.W.Frag} {H : Hp} {j : Addr} {v : V} {ds : List PyData} (h : Dx K H j v (.tuple ds)) : ∃ a, v = .ref a := by
  cases h with
  | tup n s t => exact ⟨_, rfl⟩
theorem cut_map {α : Type} (f : α → PyData) (xs : List α) (lo hi : Option Int) : ∃ ys : List α, cutD (xs.map f) lo hi = ys.map f ∧ ys.length ≤ xs.length ∧ ∀ y ∈ ys, y ∈ xs := by
  refine ⟨(xs.drop (HT.sIx xs.length 0 lo)).take (HT.sIx xs.length xs.length hi - HT.sIx xs.length 0 lo), ?_, ?_, ?_⟩
  · unfold cutD
    rw [List.length_map, List.map_take, List.map_drop]
  · rw [List.length_take, List.length_drop]
    omega
  · intro y hy
    exact List.mem_of_mem_drop (List.mem_of_mem_take hy)
theorem cp_gd {c : Cp} (h : CpNm c) (k : Nat) (hk : 1 ≤ k) : Gd (cpD c) 23 k := Gd.mono (Gd.tup (.cons (word_gd h.w 0) (.cons (nm_gd h.a 0) (.cons (nm_gd h.b 0) (.nil 0))))) (by decide) hk
theorem cps_gd (k : Nat) (hk : 1 ≤ k) : ∀ {cs : List Cp}, (∀ c ∈ cs, CpNm c) → Gds (cs.map cpD) (24 * cs.length) k
  | [], _ => .nil k
  | c :: cs, h => by
    have t := cps_gd k hk (fun d hd => h d (List.mem_cons_of_mem _ hd))
    have e : 24 * (c :: cs).length = 23 + 1 + 24 * cs.length := by rw [List.length_cons]; omega
    rw [e]
    exact .cons (cp_gd (h c List.mem_cons_self) k hk) t
theorem dx_at {K : PySem.W.Frag} {H : Hp} {j : Addr} {xs : List V} {cs : List Cp} {i : Int} (h : DxAll K H j xs (cs.map cpD)) (i0 : 0 ≤ i) (i1 : i < cs.length) : ∃ x c, atI xs i = some x ∧ c ∈ cs ∧ Dx K H j x (cpD c) := by
  have e := h.len
  rw [List.length_map] at e
  obtain ⟨m, x, em, hx, ha⟩ := atI_in (xs := xs) i0 (by omega)
  obtain ⟨d, hd, D⟩ := h.get hx
  rw [List.getElem?_map] at hd
  cases hc : cs[m]? with
  | none => rw [hc] at hd; cases hd
  | some c =>
    rw [hc] at hd
    cases hd
    exact ⟨x, c, ha, List.mem_of_getElem? hc, D⟩
theorem tup_inv {K : PySem.W.Frag} {H : Hp} {j a : Addr} {ds : List PyData} (h : Dx K H j (.ref a) (.tuple ds)) : a ≠ j ∧ ∃ xs, SqT K H a xs ∧ DxAll K H j xs ds := by
  cases h with
  | tup n s t => exact ⟨n, _, s, t⟩
theorem same_l {K : PySem.W.Frag} {H H' : Hp} {a : Addr} {xs : List V} (e : Same H H') (h : SqL K H a xs) : SqL K H' a xs := by
  rcases h with h | h
  · rcases h with h | ⟨o, h⟩
    · exact .inl (.inl (e _ _ h))
    · exact .inl (.inr ⟨o, e _ _ h⟩)
  · exact .inr h
theorem hu_of' {A : Around} {k : Nat} (hr : Room k A) : A.units < cLine := hr.units0
theorem hu64 {A : Around} {k : Nat} (hr : Room k A) : A.units + 64 < cLine := hr.units
theorem stOf0 {K : PySem.W.Frag} {H : Hp} {a : Addr} {xs : List V} (h : H a = some (.tup xs)) : SqT K H a xs := .inl (.inl h)
theorem nm_nmB {y : Str} (h : IsNm y) : nmB y = true := by
  show ((decide (1 ≤ y.length) && decide (y.length ≤ 8)) && y.cps.toList.all letter) = true
  rw [decide_eq_true h.1, decide_eq_true h.2.1, Bool.true_and, Bool.true_and, List.all_eq_true]
  intro c hc
  obtain ⟨a, b⟩ := h.2.2 c hc
  show (decide (97 ≤ c) && decide (c ≤ 122)) = true
  rw [decide_eq_true a, decide_eq_true b]
  rfl
theorem cp_is {ys : List Str} {c : Cp} (h : CpOk ys c) (hn : ∀ y ∈ ys, IsNm y) : isCopyD (cpD c) = true := by
  show (wordB c.1 && (nmB c.2.1 && (nmB c.2.2 && !decide (c.2.1 = c.2.2)))) = true
  rw [nm_nmB (hn _ h.a), nm_nmB (hn _ h.b), decide_eq_false h.n]
  rcases h.w with e | e
  · rw [e]; decide +kernel
  · rw [e]; decide +kernel
theorem plan_is {ys : List Str} {cs : List Cp} (h : ∀ c ∈ cs, CpOk ys c) (hn : ∀ y ∈ ys, IsNm y) (l : cs.length ≤ 200) : isScriptD (planD cs) = true := by
  show (decide ((cs.map cpD).length ≤ 200) && (cs.map cpD).all isCopyD) = true
  rw [List.length_map, decide_eq_true l, Bool.true_and, List.all_map, List.all_eq_true]
  exact fun c hc => cp_is (h c hc) hn
theorem plan_sm {ys : List Str} {cs : List Cp} (h : ∀ c ∈ cs, CpOk ys c) (hn : ∀ y ∈ ys, IsNm y) : smD (planD cs) = true := (Gd.tup (plan_gds h hn)).sm
end Cv


/-! part K11P -/
set_option maxRecDepth 100000
set_option maxHeartbeats 4000000
namespace Cv
open PySem PySem.Spec PyProof.Rows L2
/-- a walk by its invariant, whatever a turn asks -/
theorem any_it {J : It} {n : Nat} {G : Hp → Prop} {Y : Nat → Hp → V → Hp → Prop} (w : Walk J n G Y) {B : V → Hp → (Hp → Prop) → Prop} {H0 : Hp} {Qd : Hp → Prop} (Pv : Nat → Hp → Prop) (h0 : Pv 0 H0) (hG : ∀ i H, i ≤ n → Pv i H → G H)
    (hs : ∀ i x H H', i < n → Pv i H → Y i H x H' → B x H' (Pv (i + 1))) (hd : ∀ H, Pv n H → Qd H) : ∃ W : Nat → Nat → Hp → Prop, (∃ m, W 0 m H0) ∧ ∀ i m H, W i m H →
      (J.stop i H ∧ Qd H) ∨ (J.go i H ∧ ∃ Nx : Hp → Prop, (∀ H', Nx H' → ∃ m', m' < m ∧ W (i + 1) m' H') ∧ ∀ x H', J.yld i H x H' → B x H' Nx) := by
  refine ⟨fun i m H => i + m = n ∧ Pv i H, ⟨n, Nat.zero_add n, h0⟩, fun i m H q => ?_⟩
  obtain ⟨e, p⟩ := q
  cases m with
  | zero =>
    have e' : i = n := e
    subst e'
    exact .inl ⟨w.stops H (hG _ H (Nat.le_refl _) p), hd H p⟩
  | succ m =>
    have lt : i < n := by omega
    have g := hG i H (Nat.le_of_lt lt) p
    exact .inr ⟨w.goes i H lt g, Pv (i + 1), fun H' p' => ⟨m, Nat.lt_succ_self m, by omega, p'⟩, fun x H' y => hs i x H H' lt p (w.yields i H x H' lt g y)⟩
section
variable {P : Program} {w : World} {K : PySem.W.Frag} {mg : Str → Option Value} {base : Heap}
theorem scCs : FnScope ["copies", "folders", "name", "copy"] ["copies", "folders"] (defScope sChkS) := ⟨rfl, rfl, rfl, by decide +kernel, rfl, by decide +kernel, by decide +kernel⟩
theorem ok_chkS {f : Addr} {fd : FuncData} (F : Fun K "check_script" "check_script" sChkS f fd) (B : Bl mg) (DS : Has P w K mg base CX0 3 "is_script" ["value"] (spD K isScriptD)) : FnOk P w K mg base CX0 4 f fd ["copies", "folders"] (spChkS K) := by
  refine F.ok scCs (fun vs H Q E h => ?_) (fun cdv A outer s H vs Q E hr h => ?_)
  · obtain ⟨j, p, a, cs, ys, rfl, _⟩ := h
    rfl
  · obtain ⟨j, p, a, cs, ys, rfl, Dp, lc, hcs, hys, ha, q⟩ := h
    refine ⟨_, pss_cons (ps_if (pt_not (pt_val (pe_has DS hr pass0 (pa_cons (pv 0) pa_nil)))) (pss_one ps_dead) pss_nil)
      (pss_one (ps_if (pt_not (pt_val (pe_callB (cr_all rfl) (by rfl) B.all (by decide +kernel) (pa_cons (pe_lc2 (own := [("copy", 3), ("name", 2)]) (vs1 := [2]) (tt := tYes) (tt1 := tYes) (te := tOp (rIn K false) (tVar 2) (tVar 1)) (wi1 := iTup K (tSl (rSlA K) (tVar 3) (tPart (tC (.int 1))) tNoPart)) rfl scCs.nd (pi_tup (pv 0))
        (blkOk_by (N := ["copies", "folders", "name", "copy"]) (sc := defScope sChkS) (by decide +kernel)) (by decide) (fun _ _ _ _ _ => pg_name (i := 3) scCs.nd rfl (.inl rfl)) (fun _ _ _ _ _ => pts_nil)
        (fun _ _ _ _ _ => pi_tup (pe_slice sl_tupA (pv 3) (po_some pe_int) po_none)) (fun _ _ _ _ _ => pg_name (i := 2) scCs.nd rfl (.inl rfl)) (fun _ _ _ _ _ => pts_nil) (fun _ _ _ _ _ => pe_cmpR op_in_seq (pv 2) (pv 1) rfl)) pa_nil)))) (pss_one ps_dead) pss_nil)), ?_⟩
    obtain ⟨paj, xs, sP, tP⟩ := tup_inv Dp
    have el := tP.len
    rw [List.length_map] at el
    refine ⟨_, rfl, j, _, planD cs, rfl, Dp, plan_sm hcs hys, fun H1 e1 => ⟨_, rfl, ?_⟩⟩
    rw [plan_is hcs hys lc]
    refine ⟨_, rfl, p, rfl, ⟨xs, same_t e1 sP⟩, fun D nD => ?_⟩
    refine any_it (walk_tup (xs := xs)) (fun i H' => (∃ bs : List Bool, H' D = some (.lst (bs.map V.bl)) ∧ bs.all id = true ∧ bs.length = 2 * i) ∧ Same H1 H') ⟨⟨[], upd_same, rfl, rfl⟩, same_new nD⟩ (fun i H' _ h => same_t (e1.trans h.2) sP) ?_ ?_
    · rintro i x H2 H3 hi ⟨⟨bs, hD, hb, lb⟩, e2⟩ ⟨rfl, hc⟩
      obtain ⟨d, hd, Dd⟩ := tP.get hc
      rw [List.getElem?_map] at hd
      obtain ⟨c, hcc, rfl⟩ : ∃ c, cs[i]? = some c ∧ cpD c = d := by
        cases h : cs[i]? with
        | none => rw [h] at hd; cases hd
        | some c => rw [h] at hd; cases hd; exact ⟨c, rfl, rfl⟩
      have ck := hcs c (List.mem_of_getElem? hcc)
      obtain ⟨b, rfl, bj, sb⟩ := cp_inv (Dd.same (e1.trans e2))
      refine ⟨rfl, _, rfl, _, rfl, b, _, rfl, sb, fun z => absurd z.1 (by show ¬ HT.sIx 3 0 (some 1) = 0; decide), fun _ t nt => ?_⟩
      have e3 : Same H3 (upd H3 t (.tup (cutV (cpV c) (some 1) none))) := same_new nt
      have ht : upd H3 t (.tup (cutV (cpV c) (some 1) none)) t = some (.tup [.str c.2.1, .str c.2.2]) := upd_same
      have hD4 := e3 _ _ hD
      refine ⟨t, rfl, ⟨_, stOf0 ht⟩, ?_⟩
      generalize upd H3 t (.tup (cutV (cpV c) (some 1) none)) = H4 at e3 ht hD4 ⊢
      refine any_it (walk_tup (xs := [.str c.2.1, .str c.2.2])) (fun k H' => (∃ bs : List Bool, H' D = some (.lst (bs.map V.bl)) ∧ bs.all id = true ∧ bs.length = 2 * i + k) ∧ Same H1 H' ∧ H' t = some (.tup [.str c.2.1, .str c.2.2])) ⟨⟨bs, hD4, hb, lb⟩, e2.trans e3, ht⟩ (fun k H' _ h => stOf0 h.2.2) ?_ ?_
      · rintro k y H5 H6 hk ⟨⟨bs, hD, hb, lb⟩, e5, ht⟩ ⟨rfl, hy⟩
        obtain ⟨z, rfl, hz⟩ : ∃ z, y = .str z ∧ z ∈ ys := by
          rcases k with _ | _ | k
          · exact ⟨_, (Option.some.inj hy).symm, ck.a⟩
          · exact ⟨_, (Option.some.inj hy).symm, ck.b⟩
          · exact absurd hy (by simp)
        have k2 : k < 2 := hk
        have i200 : i < 200 := by omega
        refine ⟨rfl, _, rfl, _, rfl, a, _, rfl, .inr (same_t (e1.trans e5) ha), rfl, flat_strs ys, ?_⟩
        show ∃ acc, H6 D = some (.lst acc) ∧ acc.length < sizeLine ∧ ((∃ bs : List Bool, upd H6 D (.lst (acc ++ [.bl (inV (.str z) (ys.map V.str))])) D = _ ∧ _) ∧ _)
        rw [inV_strs, decide_eq_true hz]
        refine ⟨_, hD, by rw [List.length_map]; exact small1000 (by omega), ⟨bs ++ [true], by rw [upd_same, List.map_append]; rfl, by rw [List.all_append, hb]; rfl, by rw [List.length_append, lb]; rfl⟩, ?_, ?_⟩
        · exact same_up e5 nD
        · rw [upd_ne (fun e => by rw [e, hD] at ht; cases ht)]
          exact ht
      · rintro H5 ⟨⟨bs, hD, hb, lb⟩, e5, _⟩
        exact ⟨⟨bs, hD, hb, by rw [lb]; show 2 * i + 2 = 2 * (i + 1); omega⟩, e5⟩
    · rintro H2 ⟨⟨bs, hD, hb, lb⟩, e2⟩
      refine ⟨D, bs, rfl, sqOf0 hD, _, rfl, ?_⟩
      rw [hb]
      exact q H2 (e1.trans e2)
end
end Cv


/-! part K11R -/
set_option maxRecDepth 100000
set_option maxHeartbeats 4000000
namespace Cv
open PySem PySem.Spec PyProof.Rows L2
theorem hu1 {A : Around} {k : Nat} (hr : Room k A) : A.units + 1 < cLine := by have := hr.units; omega
structure Fold (ys : List Str) : Prop where
  lo : 1 ≤ ys.length
  hi : ys.length ≤ 20
  nd : ys.Nodup
  nm : ∀ y ∈ ys, IsNm y
structure Scr (ys : List Str) (cs : List Cp) : Prop where
  le : cs.length ≤ 200
  ok : ∀ c ∈ cs, CpOk ys c
theorem strsOf_map : ∀ ys : List Str, strsOf (ys.map .str) = ys
  | [] => rfl
  | y :: ys => by
    show y :: strsOf (ys.map .str) = y :: ys
    rw [strsOf_map ys]
theorem fold_is {ys : List Str} (h : Fold ys) : areFoldersD (.tuple (ys.map .str)) = true := by
  show ((decide (1 ≤ (ys.map PyData.str).length) && decide ((ys.map PyData.str).length ≤ 20)) && ((ys.map PyData.str).all isNameD && decide (strsOf (ys.map .str)).Nodup)) = true
  rw [List.length_map, decide_eq_true h.lo, decide_eq_true h.hi, strsOf_map, decide_eq_true h.nd, List.all_map, List.all_eq_true.mpr (fun y hy => show (isNameD ∘ PyData.str) y = true from nm_nmB (h.nm y hy))]
  rfl
theorem strs_sm : ∀ {ys : List Str}, (∀ y ∈ ys, IsNm y) → smAll (ys.map .str) = true
  | [], _ => rfl
  | y :: ys, h => by
    show (decide (y.length ≤ 10000) && smAll (ys.map .str)) = true
    rw [strs_sm fun z hz => h z (List.mem_cons_of_mem _ hz), Bool.and_true]
    have := (h y List.mem_cons_self).2.1
    exact decide_eq_true (by omega)
theorem same_put {H0 H : Hp} {d : Addr} {o : HO} (e : Same H0 H) (f : H0 d = none) : Same H0 (upd H d o) := same_up e f
/-- the lists behind further copies -/
def runG (R : Str → List Str) (cs : List Cp) : Str → List Str := cs.foldl stepR R
theorem runG_take {R : Str → List Str} {cs : List Cp} {i : Nat} {c : Cp} (h : cs[i]? = some c) : runG R (cs.take (i + 1)) = stepR (runG R (cs.take i)) c := by
  unfold runG
  rw [List.take_add_one, h, List.foldl_append]
  rfl
theorem rok_runG {ys : List Str} : ∀ {cs : List Cp} {R : Str → List Str}, ROk ys R → (∀ c ∈ cs, CpOk ys c) → ROk ys (runG R cs)
  | [], _, h, _ => h
  | c :: cs, _, h, hc => rok_runG (cs := cs) (rok_step h (hc c List.mem_cons_self)) fun d hd => hc d (List.mem_cons_of_mem _ hd)
/-- folders in a tuple, or the keys of a dict -/
def spFstL (K : PySem.W.Frag) : Sp := fun vs H Q _ => ∃ (a : Addr) (ys : List Str), vs = [.ref a] ∧ (SqT K H a (ys.map V.str) ∨ ∃ kvs : List (Key × V), Rd H a (.dK kvs) ∧ kvs.map (·.1) = ys.map Sum.inr) ∧ ys.Nodup ∧ ys.length ≤ 20 ∧
  ∀ (d : Addr) (ks : List Str) (ad : Str → Addr) (H' : Hp), ks.Perm ys → sortedS ks = true → RowsAt H H' d ks ad (fun y => [y]) → Same H H' → Q (.ref d) H'
def spBehind (K : PySem.W.Frag) : Sp := fun vs H Q _ => ∃ (H0 : Hp) (j d p : Addr) (ys ks : List Str) (ad : Str → Addr) (R : Str → List Str) (cs : List Cp), vs = [.ref d, .ref p] ∧ Same H0 H ∧ RowsAt H0 H d ks ad R ∧ ROk ys R ∧ ks.Perm ys ∧ ys.length ≤ 20 ∧
  (∀ c ∈ cs, CpOk ys c) ∧ Dx K H j (.ref p) (planD cs) ∧
  ∀ (d' : Addr) (ad' : Str → Addr) (H' : Hp), H d' = none → RowsAt H0 H' d' ks ad' (runG R cs) → Same H H' → Q (.ref d') H'
def spLists (K : PySem.W.Frag) : Sp := fun vs H Q _ => ∃ (j a p : Addr) (ys : List Str) (cs : List Cp), vs = [.ref a, .ref p] ∧ Fold ys ∧ Scr ys cs ∧ SqT K H a (ys.map V.str) ∧ a ≠ j ∧ Dx K H j (.ref p) (planD cs) ∧
  ∀ (d : Addr) (ks : List Str) (ad : Str → Addr) (H' : Hp), ks.Perm ys → sortedS ks = true → RowsAt H H' d ks ad (runR cs) → Same H H' → Q (.ref d) H'
/-- sorted of either -/
def rSortE (K : PySem.W.Frag) : List V → Hp → VK → Prop := fun vs H Q => rSortT K vs H Q ∨ ∃ (a : Addr) (kvs : List (Key × V)) (ks : List Str), vs = [.ref a] ∧ Rd H a (.dK kvs) ∧ kvs.map (·.1) = ks.map Sum.inr ∧ ks.length < 64 ∧ ∀ ys p, ys.Perm ks → sortedS ys = true → H p = none → Q (.ref p) (upd H p (.lst (ys.map V.str)))
theorem cr_sortE {X : Cx} (hc : X.calm = true) : CallR X (.builtin "sorted") (rSortE X.K) := by
  intro pins s σ H vs us Q I r h
  rcases h with h | h
  · exact cr_sortT pins s σ H vs us Q I r h
  · exact call_sortedD hc pins s σ H vs us Q I r h
theorem sortE_of {K : PySem.W.Frag} {H : Hp} {Q : VK} {a : Addr} {ys : List Str} (ha : SqT K H a (ys.map V.str) ∨ ∃ kvs : List (Key × V), Rd H a (.dK kvs) ∧ kvs.map (·.1) = ys.map Sum.inr) (hi : ys.length ≤ 20)
    (q : ∀ (ks : List Str) (p : Addr), ks.Perm ys → sortedS ks = true → H p = none → Q (.ref p) (upd H p (.lst (ks.map V.str)))) : rSortE K [.ref a] H Q := by
  rcases ha with ha | ⟨kvs, ha, hk⟩
  · exact .inl ⟨a, ys, rfl, ha, q⟩
  · exact .inr ⟨a, kvs, ys, rfl, ha, hk, by omega, q⟩
/-- a dict copied: all but its place stays -/
theorem RowsAt.copy {H0 H : Hp} {d p : Addr} {ks : List Str} {ad : Str → Addr} {R : Str → List Str} (h : RowsAt H0 H d ks ad R) (e : Same H0 H) (np : H p = none) : RowsAt H0 (upd H p (.dK (kvR ks ad))) p ks ad R :=
  ⟨upd_same, fun y hy => (same_new np) _ _ (h.rows y hy), e.free np, h.fr⟩
section
variable {P : Program} {w : World} {K : PySem.W.Frag} {mg : Str → Option Value} {base : Heap}
theorem scFstL : FnScope ["folders", "name"] ["folders"] (defScope sFstL) := ⟨rfl, rfl, rfl, by decide +kernel, rfl, by decide +kernel, by decide +kernel⟩
theorem ok_fstL {f : Addr} {fd : FuncData} (F : Fun K "first_lists" "first_lists" sFstL f fd) (B : Bl mg) : FnOk P w K mg base CX0 1 f fd ["folders"] (spFstL K) := by
  refine F.ok scFstL (fun vs H Q E h => ?_) (fun cdv A outer s H vs Q E hr h => ?_)
  · obtain ⟨a, ys, rfl, _⟩ := h
    rfl
  · obtain ⟨a, ys, rfl, ha, nd, hi, q⟩ := h
    refine ⟨_, pss_one (ps_ret (pe_dc (own := [("name", 1)]) (tt := tYes) (tk := tVar 1) (tv := tLst (tCons (tVar 1) tNil)) rfl scFstL.nd (pi_list (pe_callB (cr_sortE rfl) (by rfl) B.sorted (by decide +kernel) (pa_cons (pv 0) pa_nil)))
        (blkOk_by (N := ["folders", "name"]) (sc := defScope sFstL) (by decide +kernel)) (fun _ _ _ _ _ => pg_name (i := 1) scFstL.nd rfl (.inl rfl)) (fun _ _ _ _ _ => pts_nil) (fun _ _ _ _ _ => pv 1) (fun _ _ _ _ _ => pe_lst (pa_cons (pv 1) pa_nil)))), ?_⟩
    refine ⟨_, rfl, sortE_of ha hi fun ks sp pm so ns => ?_⟩
    have e3 : Same H (upd H sp (.lst (ks.map V.str))) := same_new ns
    have hsp : upd H sp (.lst (ks.map V.str)) sp = some (.lst (ks.map V.str)) := upd_same
    have knd : ks.Nodup := pm.nodup_iff.mpr nd
    have kle : ks.length ≤ 20 := by rw [pm.length_eq]; exact hi
    refine ⟨sp, rfl, ⟨_, sqOf hsp⟩, fun d nd => ?_⟩
    generalize upd H sp (.lst (ks.map V.str)) = H3 at e3 hsp nd ⊢
    refine any_it (walk_list (xs := ks.map V.str)) (fun i H' => (∃ ad : Str → Addr, RowsAt H H' d (ks.take i) ad (fun y => [y])) ∧ Same H3 H') ⟨⟨fun _ => 0, upd_same, (fun y hy => nomatch hy), e3.free nd, (fun y hy => nomatch hy)⟩, same_new nd⟩ (fun i H' _ h => sqOf (h.2 _ _ hsp)) ?_ ?_
    · rintro i x H4 H5 hi ⟨⟨ad, RA⟩, e4⟩ ⟨rfl, hc⟩
      obtain ⟨y, hy, rfl⟩ : ∃ y, ks[i]? = some y ∧ x = .str y := by
        rw [List.getElem?_map] at hc
        cases h : ks[i]? with
        | none => rw [h] at hc; cases hc
        | some y => rw [h] at hc; cases hc; exact ⟨y, rfl, rfl⟩
      refine ⟨rfl, _, rfl, _, rfl, by show 1 ≤ sizeLine; decide, fun r nr => ?_⟩
      have e5 : Same H5 (upd H5 r (.lst [.str y])) := same_new nr
      have hr5 : upd H5 r (.lst [.str y]) r = some (.lst [.str y]) := upd_same
      have RA5 := RA.same e5
      have nin : y ∉ ks.take i := fun m => by
        obtain ⟨k, hk, ek⟩ := List.getElem_of_mem m
        rw [List.length_take] at hk
        rw [List.getElem_take] at ek
        have h1 := (List.getElem?_eq_some_iff.mp hy)
        obtain ⟨q1, q2⟩ := h1
        have := (List.getElem_inj knd).mp (ek.trans q2.symm)
        omega
      have fr : H r = none := e3.free (e4.free nr)
      refine ⟨_, .inr y, rfl, RA5.at_, by rw [List.length_map]; exact small1000 (by rw [List.length_take]; omega), ⟨upA ad y r, ?_⟩, same_up (e4.trans e5) nd⟩
      have := RA5.add nin hr5 fr
      rw [List.take_add_one, hy]
      exact this
    · rintro H4 ⟨⟨ad, RA⟩, e4⟩
      rw [List.take_of_length_le (by rw [List.length_map]; exact Nat.le_refl _)] at RA
      exact q d ks ad H4 pm so RA (e3.trans e4)
theorem scBehL : FnScope ["lists", "copies", "now", "word", "source", "target"] ["lists", "copies"] (defScope sBehind) := ⟨rfl, rfl, rfl, by decide +kernel, rfl, by decide +kernel, by decide +kernel⟩
theorem ok_behind {f : Addr} {fd : FuncData} (F : Fun K "lists_behind" "lists_behind" sBehind f fd) (B : Bl mg) (DJ : Has P w K mg base CX0 1 "joined_behind" ["ahead", "behind"] spJoin) : FnOk P w K mg base CX0 2 f fd ["lists", "copies"] (spBehind K) := by
  refine F.ok scBehL (fun vs H Q E h => ?_) (fun cdv A outer s H vs Q E hr h => ?_)
  · obtain ⟨H0, j, d, p, ys, ks, ad, R, cs, rfl, _⟩ := h
    rfl
  · obtain ⟨H0, j, d0, p, ys, ks, ad, R, cs, rfl, e0, RA0, ROK, pm, hi, hcs, Dp, q⟩ := h
    refine ⟨_, pss_cons (ps_set (i := 2) scBehL.nd rfl (.inl rfl) (pe_callTy call_dictD (by rfl) B.dict (by decide +kernel) (pa_cons (pv 0) pa_nil)))
      (pss_cons (ps_for PassesOwn.never rfl (pi_tup (pv 1)) (pg_tup rfl (pgs_cons (pg_name (i := 3) scBehL.nd rfl (.inl rfl)) (pgs_cons (pg_name (i := 4) scBehL.nd rfl (.inl rfl)) (pgs_cons (pg_name (i := 5) scBehL.nd rfl (.inl rfl)) pgs_nil))))
        (pss_one (ps_if (pt_cmpR op_eq (pv 3) pe_str (nomark _))
          (pss_one (ps_dput (hu1 hr) (pv 2) (pv 5) (pe_has DJ hr pass0 (pa_cons (pe_dget (hu1 hr) (pv 2) (pv 4) (fun _ _ => rfl)) (pa_cons (pe_dget (hu1 hr) (pv 2) (pv 5) (fun _ _ => rfl)) pa_nil))) rfl))
          (pss_one (ps_dput (hu1 hr) (pv 2) (pv 5) (pe_has DJ hr pass0 (pa_cons (pe_dget (hu1 hr) (pv 2) (pv 5) (fun _ _ => rfl)) (pa_cons (pe_dget (hu1 hr) (pv 2) (pv 4) (fun _ _ => rfl)) pa_nil))) rfl)))))
      (pss_one (ps_ret (pv 2)))), ?_⟩
    obtain ⟨paj, xs, sP, tP⟩ := tup_inv Dp
    have el := tP.len
    rw [List.length_map] at el
    have kle : ks.length ≤ 20 := by rw [pm.length_eq]; exact hi
    refine ⟨_, rfl, d0, _, rfl, .inl RA0.at_, fun d nd => ?_⟩
    have RA := RA0.copy e0 nd
    have e04 : Same H (upd H d (.dK (kvR ks ad))) := same_new nd
    generalize upd H d (.dK (kvR ks ad)) = H4 at RA e04 ⊢
    refine ⟨_, rfl, p, rfl, ⟨xs, same_t e04 sP⟩, ?_⟩
    refine for_tup (xs := xs) (fun i σ H' => ∃ x3 x4 x5 ad, σ = [some (.ref d0), some (.ref p), some (.ref d), x3, x4, x5] ∧ RowsAt H0 H' d ks ad (runG R (cs.take i)) ∧ Same H H') ⟨none, none, none, ad, rfl, RA, e04⟩
      (fun i σ H' _ h => by obtain ⟨_, _, _, _, _, _, h⟩ := h; exact same_t h sP) ?_ ?_
    · rintro i x σ H5 hx ⟨x3, x4, x5, ad, rfl, RA, e5⟩
      obtain ⟨dd, hd, Dd⟩ := tP.get hx
      rw [List.getElem?_map] at hd
      obtain ⟨c, hcc, rfl⟩ : ∃ c, cs[i]? = some c ∧ cpD c = dd := by
        cases h : cs[i]? with
        | none => rw [h] at hd; cases hd
        | some c => rw [h] at hd; cases hd; exact ⟨c, rfl, rfl⟩
      have ck := hcs c (List.mem_of_getElem? hcc)
      have rok := rok_runG (ys := ys) (cs := cs.take i) ROK fun c hc => hcs c (List.mem_of_mem_take hc)
      have ma : c.2.1 ∈ ks := pm.mem_iff.mpr ck.a
      have mb : c.2.2 ∈ ks := pm.mem_iff.mpr ck.b
      have la : (runG R (cs.take i) c.2.1).length ≤ 100 := by have := (rok _ ck.a).len; omega
      have lb : (runG R (cs.take i) c.2.2).length ≤ 100 := by have := (rok _ ck.b).len; omega
      obtain ⟨b, rfl, bj, sb⟩ := cp_inv (Dd.same e5)
      have kl : (kvR ks ad).length < sizeLine := by rw [List.length_map]; exact small1000 (by omega)
      have ga : DGet H5 d (.str c.2.1) (some (.ref (ad c.2.1))) := kv_val (ad := ad) ma ▸ DGet.k (k := .inr c.2.1) RA.at_
      have gb : DGet H5 d (.str c.2.2) (some (.ref (ad c.2.2))) := kv_val (ad := ad) mb ▸ DGet.k (k := .inr c.2.2) RA.at_
      refine ⟨b, cpV c, rfl, sb, rfl, _, _, rfl, _, _, rfl, _, _, rfl, rfl, ?_⟩
      refine ⟨_, rfl, rfl, _, rfl, ite2 (fun k => ?_) (fun k => ?_)⟩
      · have ew : c.1 = Str.ofString "over" := by have := of_decide_eq_true k; injection this
        refine ⟨_, rfl, _, rfl, d, _, rfl, ga, _, rfl, _, rfl, d, _, rfl, gb, _, _, _, _, rfl, RA.rows _ ma, RA.rows _ mb, la, lb, fun r H6 e6 nr hr6 => ?_⟩
        refine ⟨_, rfl, _, rfl, d, _, rfl, DPut.k (k := .inr c.2.2) (RA.same e6).at_ kl, _, _, _, upA ad c.2.2 r, rfl, ?_, same_put (e5.trans e6) nd⟩
        rw [runG_take hcc, stepR, if_pos ew]
        exact (RA.same e6).put mb hr6 (e0.free (e5.free nr))
      · have ew : ¬ c.1 = Str.ofString "over" := fun z => k (decide_eq_true (congrArg V.str z))
        refine ⟨_, rfl, _, rfl, d, _, rfl, gb, _, rfl, _, rfl, d, _, rfl, ga, _, _, _, _, rfl, RA.rows _ mb, RA.rows _ ma, lb, la, fun r H6 e6 nr hr6 => ?_⟩
        refine ⟨_, rfl, _, rfl, d, _, rfl, DPut.k (k := .inr c.2.2) (RA.same e6).at_ kl, _, _, _, upA ad c.2.2 r, rfl, ?_, same_put (e5.trans e6) nd⟩
        rw [runG_take hcc, stepR, if_neg ew]
        exact (RA.same e6).put mb hr6 (e0.free (e5.free nr))
    · rintro σ H5 ⟨x3, x4, x5, ad, rfl, RA, e5⟩
      rw [List.take_of_length_le (by omega)] at RA
      exact ⟨_, rfl, q d ad H5 nd RA e5⟩
theorem scLi : FnScope ["folders", "copies"] ["folders", "copies"] (defScope sLists) := ⟨rfl, rfl, rfl, by decide +kernel, rfl, by decide +kernel, by decide +kernel⟩
theorem ok_lists {f : Addr} {fd : FuncData} (F : Fun K "lists_of" "lists_of" sLists f fd) (DF : Has P w K mg base CX0 3 "check_folders" ["folders"] (spOk K areFoldersD)) (DS : Has P w K mg base CX0 4 "check_script" ["copies", "folders"] (spChkS K))
    (DFi : Has P w K mg base CX0 1 "first_lists" ["folders"] (spFstL K)) (DB : Has P w K mg base CX0 2 "lists_behind" ["lists", "copies"] (spBehind K)) : FnOk P w K mg base CX0 5 f fd ["folders", "copies"] (spLists K) := by
  refine F.ok scLi (fun vs H Q E h => ?_) (fun cdv A outer s H vs Q E hr h => ?_)
  · obtain ⟨j, a, p, ys, cs, rfl, _⟩ := h
    rfl
  · obtain ⟨j, a, p, ys, cs, rfl, FO, SC, ha, aj, Dp, q⟩ := h
    refine ⟨_, pss_cons (ps_expr (pe_has DF hr pass0 (pa_cons (pv 0) pa_nil)))
      (pss_cons (ps_expr (pe_has DS hr pass0 (pa_cons (pv 1) (pa_cons (pv 0) pa_nil))))
      (pss_one (ps_ret (pe_has DB hr pass0 (pa_cons (pe_has DFi hr pass0 (pa_cons (pv 0) pa_nil)) (pa_cons (pv 1) pa_nil)))))), ?_⟩
    refine ⟨_, rfl, j, .ref a, .tuple (ys.map .str), rfl, .tup aj ha (strs_dx ys), strs_sm FO.nm, fold_is FO, fun H1 e1 => ?_⟩
    refine ⟨_, rfl, _, rfl, j, p, a, cs, ys, rfl, Dp.same e1, SC.le, SC.ok, FO.nm, same_t e1 ha, fun H2 e2 => ?_⟩
    have e12 := e1.trans e2
    refine ⟨_, rfl, a, ys, rfl, .inl (same_t e12 ha), FO.nd, FO.hi, fun d ks ad H3 pm so RA e3 => ?_⟩
    have e03 := e12.trans e3
    refine ⟨_, rfl, H, j, d, p, ys, ks, ad, _, cs, rfl, e03, RA.from e12, rok_zero ys, pm, FO.hi, SC.ok, Dp.same e03, fun d' ad' H4 nd RA4 e4 => ?_⟩
    exact q d' ks ad' H4 pm so RA4 (e03.trans e4)
end
end Cv

/-! part K11U -/
set_option maxRecDepth 100000
set_option maxHeartbeats 4000000
namespace Cv
open PySem PySem.Spec PyProof.Rows L2
def spOneOf (K : PySem.W.Frag) : Sp := fun vs H Q _ => ∃ (a : Addr) (y : Str) (ys : List Str), vs = [.str y, .ref a] ∧ SqT K H a (ys.map V.str) ∧ Q (.bl (decide (y ∈ ys))) H
def spChkN (K : PySem.W.Frag) : Sp := fun vs H Q _ => ∃ (a : Addr) (y : Str) (ys : List Str), vs = [.str y, .ref a] ∧ SqT K H a (ys.map V.str) ∧ y ∈ ys ∧ Q .non H
def spList (K : PySem.W.Frag) : Sp := fun vs H Q _ => ∃ (j a p : Addr) (ys : List Str) (cs : List Cp) (y : Str), vs = [.ref a, .ref p, .str y] ∧ y ∈ ys ∧ Fold ys ∧ Scr ys cs ∧ SqT K H a (ys.map V.str) ∧ a ≠ j ∧ Dx K H j (.ref p) (planD cs) ∧
  ∀ (r : Addr) (H' : Hp), H r = none → H' r = some (.lst ((runR cs y).map V.str)) → Same H H' → Q (.ref r) H'
def hdR (R : Str → List Str) (y : Str) : Str := (R y).headD Str.empty
abbrev kvS (ks : List Str) (g : Str → V) : List (Key × V) := ks.map fun y => (Sum.inr y, g y)
def spHeads (K : PySem.W.Frag) : Sp := fun vs H Q _ => ∃ (j a p : Addr) (ys : List Str) (cs : List Cp), vs = [.ref a, .ref p] ∧ Fold ys ∧ Scr ys cs ∧ SqT K H a (ys.map V.str) ∧ a ≠ j ∧ Dx K H j (.ref p) (planD cs) ∧
  ∀ (d : Addr) (ks : List Str) (H' : Hp), ks.Perm ys → sortedS ks = true → H d = none → H' d = some (.dK (kvS ks fun y => .str (hdR (runR cs) y))) → Same H H' → Q (.ref d) H'
theorem kvS_none {ks : List Str} {g : Str → V} {t : Str} (h : t ∉ ks) : valV (kvS ks g) (Sum.inr t) = none := by
  induction ks with
  | nil => rfl
  | cons y ks ih =>
    show valV ((Sum.inr y, g y) :: kvS ks g) (Sum.inr t) = _
    rw [valV_neg (fun z2 => h (List.mem_cons.mpr (.inl (Sum.inr.inj z2).symm)))]
    exact ih fun m => h (List.mem_cons_of_mem _ m)
theorem kvS_add {ks : List Str} {g : Str → V} {t : Str} (h : t ∉ ks) : putK (kvS ks g) (Sum.inr t) (g t) = kvS (ks ++ [t]) g := by
  rw [putK_new _ (kvS_none h), kvS, kvS, List.map_append]
  rfl
theorem head_at {l : List Str} (h : l ≠ []) : atI (l.map V.str) 0 = some (.str (l.headD Str.empty)) := by
  cases l with
  | nil => exact absurd rfl h
  | cons x r => exact atI_nat (j := 0) rfl
theorem nin_take {ks : List Str} {i : Nat} {y : Str} (nd : ks.Nodup) (hy : ks[i]? = some y) : y ∉ ks.take i := fun m => by
  obtain ⟨k, hk, ek⟩ := List.getElem_of_mem m
  rw [List.length_take] at hk
  rw [List.getElem_take] at ek
  obtain ⟨q1, q2⟩ := (List.getElem?_eq_some_iff.mp hy)
  have := (List.getElem_inj nd).mp (ek.trans q2.symm)
  omega
section
variable {P : Program} {w : World} {K : PySem.W.Frag} {mg : Str → Option Value} {base : Heap}
theorem scOo : FnScope ["value", "folders"] ["value", "folders"] (defScope sOneOf) := ⟨rfl, rfl, rfl, by decide +kernel, rfl, by decide +kernel, by decide +kernel⟩
theorem ok_oneOf {f : Addr} {fd : FuncData} (F : Fun K "is_one_of" "is_one_of" sOneOf f fd) (B : Bl mg) : FnOk P w K mg base CX0 1 f fd ["value", "folders"] (spOneOf K) := by
  refine F.ok scOo (fun vs H Q E h => ?_) (fun cdv A outer s H vs Q E hr h => ?_)
  · obtain ⟨a, y, ys, rfl, _⟩ := h
    rfl
  · obtain ⟨a, y, ys, rfl, ha, q⟩ := h
    refine ⟨_, pss_one (ps_ret (pe_and (pe_callB call_isi (by rfl) B.isi (by decide +kernel) (pa_cons (pv 0) (pa_cons (pe_bltn (v := .ty "str") (u := .type "str") (by rfl) B.str (by decide +kernel) rfl) pa_nil)))
      (pe_one (pe_cmpR op_in_seq (pv 0) (pv 1) rfl)))), ?_⟩
    have D : Dx K H a (.str y) (.str y) := .str y
    refine ⟨_, rfl, .str y, .ty "str", _, _, _, rfl, .ty "str", D.ty, kit_ty (kit_str (.str y)), true, rfl, _, rfl, _, rfl, a, _, rfl, .inr ha, rfl, flat_strs ys, ?_⟩
    show Q (.bl (inV (.str y) (ys.map V.str))) H
    rw [inV_strs]
    exact q
theorem scCn : FnScope ["name", "folders"] ["name", "folders"] (defScope sChkN) := ⟨rfl, rfl, rfl, by decide +kernel, rfl, by decide +kernel, by decide +kernel⟩
theorem ok_chkN {f : Addr} {fd : FuncData} (F : Fun K "check_name" "check_name" sChkN f fd) (DO : Has P w K mg base CX0 1 "is_one_of" ["value", "folders"] (spOneOf K)) : FnOk P w K mg base CX0 2 f fd ["name", "folders"] (spChkN K) := by
  refine F.ok scCn (fun vs H Q E h => ?_) (fun cdv A outer s H vs Q E hr h => ?_)
  · obtain ⟨a, y, ys, rfl, _⟩ := h
    rfl
  · obtain ⟨a, y, ys, rfl, ha, hy, q⟩ := h
    refine ⟨_, pss_one (ps_if (pt_not (pt_val (pe_has DO hr pass0 (pa_cons (pv 0) (pa_cons (pv 1) pa_nil))))) (pss_one ps_dead) pss_nil), ?_⟩
    refine ⟨_, rfl, _, rfl, a, y, ys, rfl, ha, _, rfl, ?_⟩
    rw [decide_eq_true hy]
    exact q
theorem scLo : FnScope ["folders", "copies", "name", "lists"] ["folders", "copies", "name"] (defScope sList) := ⟨rfl, rfl, rfl, by decide +kernel, rfl, by decide +kernel, by decide +kernel⟩
theorem ok_list {f : Addr} {fd : FuncData} (F : Fun K "list_of" "list_of" sList f fd) (DL : Has P w K mg base CX0 5 "lists_of" ["folders", "copies"] (spLists K)) (DN : Has P w K mg base CX0 2 "check_name" ["name", "folders"] (spChkN K)) :
    FnOk P w K mg base CX0 6 f fd ["folders", "copies", "name"] (spList K) := by
  refine F.ok scLo (fun vs H Q E h => ?_) (fun cdv A outer s H vs Q E hr h => ?_)
  · obtain ⟨j, a, p, ys, cs, y, rfl, _⟩ := h
    rfl
  · obtain ⟨j, a, p, ys, cs, y, rfl, hy, FO, SC, ha, aj, Dp, q⟩ := h
    refine ⟨_, pss_cons (ps_set (i := 3) scLo.nd rfl (.inl rfl) (pe_has DL hr pass0 (pa_cons (pv 0) (pa_cons (pv 1) pa_nil))))
      (pss_cons (ps_expr (pe_has DN hr pass0 (pa_cons (pv 2) (pa_cons (pv 0) pa_nil))))
      (pss_one (ps_ret (pe_dget (hu1 hr) (pv 3) (pv 2) (fun _ _ => rfl))))), ?_⟩
    refine ⟨_, rfl, _, rfl, j, a, p, ys, cs, rfl, FO, SC, ha, aj, Dp, fun d ks ad H1 pm so RA e1 => ?_⟩
    refine ⟨_, rfl, _, rfl, a, y, ys, rfl, same_t e1 ha, hy, ?_⟩
    have my : y ∈ ks := pm.mem_iff.mpr hy
    refine ⟨_, rfl, _, rfl, d, _, rfl, kv_val (ad := ad) my ▸ DGet.k (k := .inr y) RA.at_, ?_⟩
    exact q _ H1 (RA.fr y my) (RA.rows y my) e1
theorem scHe : FnScope ["folders", "copies", "lists", "name"] ["folders", "copies"] (defScope sHeads) := ⟨rfl, rfl, rfl, by decide +kernel, rfl, by decide +kernel, by decide +kernel⟩
theorem ok_heads {f : Addr} {fd : FuncData} (F : Fun K "heads_of" "heads_of" sHeads f fd) (DL : Has P w K mg base CX0 5 "lists_of" ["folders", "copies"] (spLists K)) :
    FnOk P w K mg base CX0 6 f fd ["folders", "copies"] (spHeads K) := by
  refine F.ok scHe (fun vs H Q E h => ?_) (fun cdv A outer s H vs Q E hr h => ?_)
  · obtain ⟨j, a, p, ys, cs, rfl, _⟩ := h
    rfl
  · obtain ⟨j, a, p, ys, cs, rfl, FO, SC, ha, aj, Dp, q⟩ := h
    refine ⟨_, pss_cons (ps_set (i := 2) scHe.nd rfl (.inr rfl) (pe_has DL hr pass0 (pa_cons (pv 0) (pa_cons (pv 1) pa_nil))))
      (pss_one (ps_ret (pe_lock (pe_dc (own := [("name", 3)]) (tt := tYes) (tk := tVar 3) (tv := tOp (rIxL K) (tDGet (tVar 2) (tVar 3)) (tC (.int 0))) rfl scHe.nd (pi_keys (pv 2)) (blkOk_by (N := ["folders", "copies", "lists", "name"]) (sc := defScope sHeads) (by decide +kernel))
        (fun _ _ _ _ _ => pg_name (i := 3) scHe.nd rfl (.inl rfl)) (fun _ _ _ _ _ => pts_nil) (fun _ _ _ _ _ => pv 3) (fun _ _ _ _ _ => pe_ix ix_list (pe_dget (hu1 hr) (pv 2) (pv 3) (fun _ _ => rfl)) pe_int (fun _ _ => rfl)))))), ?_⟩
    refine ⟨_, rfl, _, rfl, j, a, p, ys, cs, rfl, FO, SC, ha, aj, Dp, fun d ks ad H1 pm so RA e1 => ?_⟩
    have knd : ks.Nodup := pm.nodup_iff.mpr FO.nd
    have kle : ks.length ≤ 20 := by rw [pm.length_eq]; exact FO.hi
    refine ⟨d, _, RA.at_, trivial, fun od => ?_⟩
    have fz : upd H1 d (.frz od (.dK (kvR ks ad))) d = some (.frz od (.dK (kvR ks ad))) := upd_same
    have rw2 : ∀ y ∈ ks, upd H1 d (.frz od (.dK (kvR ks ad))) (ad y) = some (.lst ((runR cs y).map V.str)) := fun y hy => (upd_ne (ne_row RA.at_ (RA.rows y hy))).trans (RA.rows y hy)
    have e2 : Same H (upd H1 d (.frz od (.dK (kvR ks ad)))) := same_up e1 RA.fd
    generalize upd H1 d (.frz od (.dK (kvR ks ad))) = H2 at fz rw2 e2 ⊢
    refine ⟨_, rfl, d, od, rfl, .inl ⟨_, fz, fun D nD => ?_⟩⟩
    refine any_it (walk_keys (kvs := kvR ks ad)) (fun i H' => H' D = some (.dK (kvS (ks.take i) fun y => .str (hdR (runR cs) y))) ∧ Same H2 H') ⟨upd_same, same_new nD⟩ (fun i H' _ h => h.2 _ _ fz) ?_ ?_
    · rintro i x H3 H4 hi ⟨hD, e4⟩ ⟨rfl, kk, vv, hkv, rfl⟩
      rw [List.getElem?_map] at hkv
      obtain ⟨y, hy, rfl⟩ : ∃ y, ks[i]? = some y ∧ kk = .inr y := by
        cases h : ks[i]? with
        | none => rw [h] at hkv; cases hkv
        | some y => rw [h] at hkv; cases hkv; exact ⟨y, rfl, rfl⟩
      have my : y ∈ ks := List.mem_of_getElem? hy
      have ow := ((rok_run (ys := ys) SC.ok) y (pm.mem_iff.mp my)).own
      have ne : runR cs y ≠ [] := fun z => by rw [z] at ow; cases ow
      have g : DGet H4 d (.str y) (some (.ref (ad y))) := kv_val (ad := ad) my ▸ (.inl ⟨kvR ks ad, .inr y, .inr ⟨od, e4 _ _ fz⟩, rfl, rfl⟩ : DGet H4 d (kV (.inr y)) (valV (kvR ks ad) (.inr y)))
      refine ⟨rfl, _, rfl, _, rfl, _, rfl, d, _, rfl, g, ad y, _, 0, _, rfl, rfl, sqOf (e4 _ _ (rw2 y my)), head_at ne, ?_⟩
      refine ⟨_, .inr y, rfl, hD, by rw [List.length_map]; exact small1000 (by rw [List.length_take]; omega), ?_, same_up e4 nD⟩
      show upd H4 D (.dK (putK (kvS (ks.take i) fun y => .str (hdR (runR cs) y)) (.inr y) (.str (hdR (runR cs) y)))) D = _
      rw [upd_same, kvS_add (g := fun y => V.str (hdR (runR cs) y)) (nin_take knd hy), List.take_add_one, hy]
      rfl
    · rintro H3 ⟨hD, e3⟩
      rw [List.take_of_length_le (by rw [List.length_map]; exact Nat.le_refl _)] at hD
      have fD : H D = none := e2.free nD
      have Dd : D ≠ d := fun z => by rw [z, fz] at nD; cases nD
      refine ⟨e3 _ _ fz, ?_⟩
      exact q D ks _ pm so fD ((upd_ne Dd).trans hD) (same_up (e2.trans e3) RA.fd)
end
end Cv


/-! part K11V -/
set_option maxRecDepth 100000
set_option maxHeartbeats 4000000
namespace Cv
open PySem PySem.Spec PyProof.Rows L2
theorem merge_kv (g : Str → V) : ∀ (m l : List Str), (l ++ m).Nodup → mergeK (kvS l g) (kvS m g) = kvS (l ++ m) g
  | [], l, _ => by rw [List.append_nil]; rfl
  | y :: m, l, h => by
    have ny : y ∉ l := fun z => (List.nodup_append.mp h).2.2 y z y List.mem_cons_self rfl
    show mergeK (putK (kvS l g) (.inr y) (g y)) (kvS m g) = _
    rw [kvS_add ny, merge_kv g m (l ++ [y]) (by rw [List.append_assoc]; exact h), List.append_assoc]
    rfl
structure PrSt (H0 H3 H' : Hp) (D : Addr) (ks : List Str) (ts : List Addr) (ad : Str → Addr) : Prop where
  at_ : H' D = some (.lst (ts.map V.ref))
  pr : Paired (fun t kv => H' t = some (.tup [kV kv.1, kv.2])) ts (kvR ks ad)
  rows : ∀ y ∈ ks, H' (ad y) = some (.lst [.str y])
  fr : ∀ y ∈ ks, H0 (ad y) = none
  sm : Same H3 H'
end Cv

/-! part K11W -/
set_option maxRecDepth 100000
set_option maxHeartbeats 4000000
namespace Cv
open PySem PySem.Spec PyProof.Rows L2
/-! ### the first owner in a list -/
def own1 (ow : List Str) (l : List Str) : Option Str := l.find? fun y => decide (y ∈ ow)
def oV : Option Str → V
  | none => .non
  | some y => .str y
theorem find_filter {p : Str → Bool} {a : List Str} (h : a.find? p = none) : ∀ b : List Str, (b.filter fun y => !decide (y ∈ a)).find? p = b.find? p
  | [] => rfl
  | x :: b => by
    have ih := find_filter h b
    by_cases hx : p x = true
    · have nx : x ∉ a := fun m => by
        have := List.find?_eq_none.mp h x m
        exact this hx
      rw [List.filter_cons, if_pos (by rw [decide_eq_false nx]; rfl), List.find?_cons_of_pos hx, List.find?_cons_of_pos hx]
    · rw [List.find?_cons_of_neg hx, List.filter_cons]
      split
      · rw [List.find?_cons_of_neg hx]
        exact ih
      · exact ih
theorem own_jb (ow a b : List Str) : own1 ow (jb a b) = (own1 ow a).or (own1 ow b) := by
  unfold own1 jb
  rw [List.find?_append]
  cases h : a.find? fun y => decide (y ∈ ow) with
  | some y => rfl
  | none => rw [find_filter h]
def nowS (ow : List Str) (R : Str → List Str) (y : Str) : V := oV (own1 ow (R y))
theorem oV_non (o : Option Str) : decide (oV o = V.non) = o.isNone := by
  cases o with
  | none => rfl
  | some y => rfl
theorem scal_oV (a b : Option Str) : scal (oV a) (oV b) = true := by
  cases a <;> cases b <;> rfl
theorem oV_inj {a b : Option Str} : decide (oV a = oV b) = decide (a = b) := by
  cases a with
  | none => cases b with
    | none => rfl
    | some y => rfl
  | some x => cases b with
    | none => rfl
    | some y =>
      by_cases h : x = y
      · rw [h, decide_eq_true rfl, decide_eq_true rfl]
      · rw [decide_eq_false (fun z => h (by injection z)), decide_eq_false (fun z => h (by injection z))]
theorem kvS_val {ks : List Str} {g : Str → V} {t : Str} (h : t ∈ ks) : valV (kvS ks g) (Sum.inr t) = some (g t) := by
  induction ks with
  | nil => cases h
  | cons y ks ih =>
    by_cases e : y = t
    · rw [← e]
      exact valV_pos rfl
    · rcases List.mem_cons.mp h with z | z
      · exact absurd z.symm e
      · show valV ((Sum.inr y, g y) :: kvS ks g) (Sum.inr t) = _
        rw [valV_neg (fun z2 => e (Sum.inr.inj z2))]
        exact ih z
theorem kvS_put {ks : List Str} {g : Str → V} {t : Str} {v : V} (h : t ∈ ks) : putK (kvS ks g) (Sum.inr t) v = kvS ks fun y => if y = t then v else g y := by
  unfold putK
  rw [if_pos (by rw [valV_any, kvS_val h]; rfl), kvS, kvS, List.map_map]
  refine List.map_congr_left fun y _ => ?_
  show (if (Sum.inr y : Key) = Sum.inr t then _ else _) = ((Sum.inr y : Key), if y = t then v else g y)
  by_cases e : y = t
  · rw [if_pos (congrArg Sum.inr e), if_pos e]
  · rw [if_neg (fun z => e (Sum.inr.inj z)), if_neg e]
def spOwn (K : PySem.W.Frag) : Sp := fun vs H Q _ => ∃ (j p a o : Addr) (ys ow : List Str) (cs : List Cp), vs = [.ref p, .ref a, .ref o] ∧ Fold ys ∧ Scr ys cs ∧ Dx K H j (.ref p) (planD cs) ∧ SqT K H a (ys.map V.str) ∧ SqT K H o (ow.map V.str) ∧
  ∀ (d : Addr) (H' : Hp), H d = none → H' d = some (.dK (kvS ys (nowS ow (runR cs)))) → Same H H' → Q (.ref d) H'
def spFirst (K : PySem.W.Frag) : Sp := fun vs H Q _ => ∃ (r o : Addr) (l ow : List Str), vs = [.ref r, .ref o] ∧ H r = some (.lst (l.map V.str)) ∧ l.length ≤ 100 ∧ SqT K H o (ow.map V.str) ∧ ∀ H', Same H H' → Q (oV (own1 ow l)) H'
structure PrS (H3 H' : Hp) (D : Addr) (ts : List Addr) (kvs : List (Key × V)) : Prop where
  at_ : H' D = some (.lst (ts.map V.ref))
  pr : Paired (fun t kv => H' t = some (.tup [kV kv.1, kv.2])) ts kvs
  sm : Same H3 H'
theorem own_zero (ow : List Str) (y : Str) : nowS ow (fun y => [y]) y = if y ∈ ow then V.str y else .non := by
  unfold nowS own1
  by_cases h : y ∈ ow
  · rw [if_pos h, List.find?_cons_of_pos (by exact decide_eq_true h)]
    rfl
  · rw [if_neg h, List.find?_cons_of_neg (by rw [decide_eq_false h]; exact Bool.false_ne_true)]
    rfl
theorem now_step {ow : List Str} {R : Str → List Str} {c : Cp} (hw : Word c.1) : (nowS ow (stepR R c)) = fun y => if y = c.2.2 then (if (!decide (nowS ow R c.2.1 = V.non)) = true ∧ (c.1 = Str.ofString "over" ∨ nowS ow R c.2.2 = V.non) then nowS ow R c.2.1 else nowS ow R c.2.2) else nowS ow R y := by
  funext y
  unfold nowS stepR
  by_cases ew : c.1 = Str.ofString "over"
  · rw [if_pos ew]
    unfold upR
    by_cases e : y = c.2.2
    · rw [if_pos e, if_pos e, own_jb]
      cases h : own1 ow (R c.2.1) with
      | none => rw [if_neg (fun z => by have := z.1; simp [oV] at this)]; rfl
      | some x => rw [if_pos ⟨rfl, .inl ew⟩]; rfl
    · rw [if_neg e, if_neg e]
  · rw [if_neg ew]
    unfold upR
    by_cases e : y = c.2.2
    · rw [if_pos e, if_pos e, own_jb]
      cases h : own1 ow (R c.2.2) with
      | some x => rw [if_neg (fun z => by rcases z.2 with q | q; exact ew q; cases q)]; rfl
      | none =>
        cases h2 : own1 ow (R c.2.1) with
        | none => rw [if_neg (fun z => by have := z.1; simp [oV] at this)]; rfl
        | some x => rw [if_pos ⟨rfl, .inr rfl⟩]; rfl
    · rw [if_neg e, if_neg e]
end Cv

/-! part K11X -/
set_option maxRecDepth 100000
set_option maxHeartbeats 4000000
namespace Cv
open PySem PySem.Spec PyProof.Rows L2
/-! ### files -/
abbrev Fs := List (Str × Str)
abbrev kvF (fs : Fs) : List (Key × V) := fs.map fun p => (Sum.inr p.1, V.str p.2)
def getF : Fs → Str → Option Str
  | [], _ => none
  | p :: r, k => if p.1 = k then some p.2 else getF r k
def setF : Fs → Str → Str → Fs
  | [], k, v => [(k, v)]
  | p :: r, k, v => if p.1 = k then (p.1, v) :: r else p :: setF r k v
theorem getF_none {k : Str} : ∀ {fs : Fs}, getF fs k = none ↔ k ∉ fs.map (·.1)
  | [] => by simp [getF]
  | p :: r => by
    show (if p.1 = k then some p.2 else getF r k) = none ↔ k ∉ p.1 :: r.map (·.1)
    by_cases e : p.1 = k
    · rw [if_pos e]
      simp [e]
    · rw [if_neg e, getF_none (fs := r), List.mem_cons, not_or]
      exact ⟨fun h => ⟨fun z => e z.symm, h⟩, fun h => h.2⟩
theorem getF_set {k v j : Str} : ∀ {fs : Fs}, getF (setF fs k v) j = if k = j then some v else getF fs j
  | [] => rfl
  | p :: r => by
    show getF (if p.1 = k then (p.1, v) :: r else p :: setF r k v) j = if k = j then some v else (if p.1 = j then some p.2 else getF r j)
    by_cases e : p.1 = k
    · rw [if_pos e]
      show (if p.1 = j then some v else getF r j) = _
      rw [e]
      by_cases z : k = j
      · rw [if_pos z, if_pos z]
      · rw [if_neg z, if_neg z, if_neg z]
    · rw [if_neg e]
      show (if p.1 = j then some p.2 else getF (setF r k v) j) = _
      by_cases z : p.1 = j
      · rw [if_pos z, if_neg (fun q => e (z.trans q.symm)), if_pos z]
      · rw [if_neg z, getF_set (fs := r), if_neg z]
theorem setF_keys {k v : Str} : ∀ {fs : Fs}, (setF fs k v).map (·.1) = if k ∈ fs.map (·.1) then fs.map (·.1) else fs.map (·.1) ++ [k]
  | [] => by simp [setF]
  | p :: r => by
    show (if p.1 = k then (p.1, v) :: r else p :: setF r k v).map (·.1) = if k ∈ p.1 :: r.map (·.1) then p.1 :: r.map (·.1) else (p.1 :: r.map (·.1)) ++ [k]
    by_cases e : p.1 = k
    · rw [if_pos e, if_pos (by rw [e]; exact List.mem_cons_self)]
      rfl
    · rw [if_neg e]
      show p.1 :: (setF r k v).map (·.1) = _
      rw [setF_keys (fs := r)]
      by_cases z : k ∈ r.map (·.1)
      · rw [if_pos z, if_pos (List.mem_cons_of_mem _ z)]
      · rw [if_neg z, if_neg (fun m => by rcases List.mem_cons.mp m with q | q; exact e q.symm; exact z q)]
        rfl
theorem kvF_val {k : Str} : ∀ {fs : Fs}, valV (kvF fs) (Sum.inr k) = (getF fs k).map V.str
  | [] => rfl
  | p :: r => by
    show valV ((Sum.inr p.1, V.str p.2) :: kvF r) (Sum.inr k) = (if p.1 = k then some p.2 else getF r k).map V.str
    by_cases e : p.1 = k
    · rw [if_pos e, e]
      exact valV_pos rfl
    · rw [if_neg e, valV_neg (fun z => e (Sum.inr.inj z))]
      exact kvF_val
theorem kvF_put {k v : Str} {fs : Fs} (nd : (fs.map (·.1)).Nodup) : putK (kvF fs) (Sum.inr k) (V.str v) = kvF (setF fs k v) := by
  unfold putK
  by_cases h : k ∈ fs.map (·.1)
  · rw [if_pos (by
      rw [valV_any, kvF_val]
      cases e : getF fs k with
      | none => exact absurd h (getF_none.mp e)
      | some x => rfl)]
    have key : ∀ fs : Fs, (fs.map (·.1)).Nodup → k ∈ fs.map (·.1) → ((kvF fs).map fun kv => if kv.1 = Sum.inr k then (kv.1, V.str v) else kv) = kvF (setF fs k v) := by
      intro fs
      induction fs with
      | nil => intro _ m; cases m
      | cons p r ih =>
        intro nd m
        obtain ⟨n1, n2⟩ := List.nodup_cons.mp nd
        show (if (Sum.inr p.1 : Key) = Sum.inr k then ((Sum.inr p.1 : Key), V.str v) else (Sum.inr p.1, V.str p.2)) :: ((kvF r).map fun kv => if kv.1 = Sum.inr k then (kv.1, V.str v) else kv) = kvF (if p.1 = k then (p.1, v) :: r else p :: setF r k v)
        by_cases e : p.1 = k
        · rw [if_pos (congrArg Sum.inr e), if_pos e]
          have same : ((kvF r).map fun kv => if kv.1 = Sum.inr k then (kv.1, V.str v) else kv) = kvF r := by
            rw [List.map_map]
            refine List.map_congr_left fun q hq => ?_
            show (if (Sum.inr q.1 : Key) = Sum.inr k then _ else _) = _
            rw [if_neg (fun z => n1 (by show p.1 ∈ _; rw [e, ← Sum.inr.inj z]; exact List.mem_map.mpr ⟨q, hq, rfl⟩))]
          rw [same]
          rfl
        · rw [if_neg (fun z => e (Sum.inr.inj z)), if_neg e, ih n2 (by rcases List.mem_cons.mp m with q | q; exact absurd q.symm e; exact q)]
          rfl
    exact key fs nd h
  · rw [if_neg (by rw [valV_any, kvF_val, getF_none.mpr h]; exact Bool.false_ne_true)]
    have key : ∀ fs : Fs, k ∉ fs.map (·.1) → setF fs k v = fs ++ [(k, v)] := by
      intro fs
      induction fs with
      | nil => intro _; rfl
      | cons p r ih =>
        intro m
        show (if p.1 = k then (p.1, v) :: r else p :: setF r k v) = p :: (r ++ [(k, v)])
        rw [if_neg (fun e => m (by rw [← e]; exact List.mem_cons_self)), ih fun q => m (List.mem_cons_of_mem _ q)]
    rw [key fs h]
    have e : kvF (fs ++ [(k, v)]) = kvF fs ++ [((Sum.inr k : Key), V.str v)] := List.map_append
    exact e.symm
structure FOk (PT : List Str) (fs : Fs) : Prop where
  nd : (fs.map (·.1)).Nodup
  sub : ∀ k ∈ fs.map (·.1), k ∈ PT
theorem FOk.len {PT : List Str} {fs : Fs} (h : FOk PT fs) : fs.length ≤ PT.length := by
  have := nodup_sub_len h.nd h.sub
  rw [List.length_map] at this
  exact this
theorem FOk.set {PT : List Str} {fs : Fs} {k v : Str} (h : FOk PT fs) (hk : k ∈ PT) : FOk PT (setF fs k v) := by
  constructor
  · rw [setF_keys]
    split
    · exact h.nd
    · rename_i n
      rw [List.nodup_append]
      exact ⟨h.nd, by simp, fun a ha b hb e => n (by rw [← List.mem_singleton.mp hb, ← e]; exact ha)⟩
  · intro j hj
    rw [setF_keys] at hj
    split at hj
    · exact h.sub j hj
    · rcases List.mem_append.mp hj with m | m
      · exact h.sub j m
      · rw [List.mem_singleton.mp m]; exact hk
def jn (a b : Fs) : Fs := b.foldl (fun acc p => setF acc p.1 p.2) a
def jm (a b : Fs) : Fs := b.foldl (fun acc p => if p.1 ∈ acc.map (·.1) then acc else setF acc p.1 p.2) a
theorem jn_ok {PT : List Str} : ∀ {b a : Fs}, FOk PT a → (∀ k ∈ b.map (·.1), k ∈ PT) → FOk PT (jn a b)
  | [], _, h, _ => h
  | p :: r, _, h, hb => jn_ok (b := r) (h.set (hb p.1 List.mem_cons_self)) fun k hk => hb k (List.mem_cons_of_mem _ hk)
theorem jm_ok {PT : List Str} : ∀ {b a : Fs}, FOk PT a → (∀ k ∈ b.map (·.1), k ∈ PT) → FOk PT (jm a b)
  | [], _, h, _ => h
  | p :: r, a, h, hb => by
    refine jm_ok (b := r) (a := if p.1 ∈ a.map (·.1) then a else setF a p.1 p.2) ?_ fun k hk => hb k (List.mem_cons_of_mem _ hk)
    split
    · exact h
    · exact h.set (hb p.1 List.mem_cons_self)
theorem jn_get {j : Str} : ∀ {b a : Fs}, (b.map (·.1)).Nodup → getF (jn a b) j = (getF b j).or (getF a j)
  | [], _, _ => rfl
  | p :: r, a, nd => by
    obtain ⟨n1, n2⟩ := List.nodup_cons.mp nd
    show getF (jn (setF a p.1 p.2) r) j = ((if p.1 = j then some p.2 else getF r j)).or (getF a j)
    rw [jn_get n2, getF_set]
    by_cases e : p.1 = j
    · rw [if_pos e, if_pos e, getF_none.mpr (by rw [← e]; exact n1)]
      rfl
    · rw [if_neg e, if_neg e]
theorem jm_get {j : Str} : ∀ {b a : Fs}, (b.map (·.1)).Nodup → getF (jm a b) j = (getF a j).or (getF b j)
  | [], a, _ => by
    show getF a j = (getF a j).or none
    cases getF a j <;> rfl
  | p :: r, a, nd => by
    obtain ⟨n1, n2⟩ := List.nodup_cons.mp nd
    show getF (jm (if p.1 ∈ a.map (·.1) then a else setF a p.1 p.2) r) j = (getF a j).or (if p.1 = j then some p.2 else getF r j)
    rw [jm_get n2]
    by_cases h : p.1 ∈ a.map (·.1)
    · rw [if_pos h]
      by_cases e : p.1 = j
      · rw [if_pos e]
        cases z : getF a j with
        | none => exact absurd (by rw [← e]; exact h) (getF_none.mp z)
        | some x => rfl
      · rw [if_neg e]
    · rw [if_neg h, getF_set]
      by_cases e : p.1 = j
      · rw [if_pos e, if_pos e, ← e, getF_none.mpr h]
        rfl
      · rw [if_neg e, if_neg e]
theorem kvF_merge {PT : List Str} : ∀ {b a : Fs}, FOk PT a → (∀ k ∈ b.map (·.1), k ∈ PT) → mergeK (kvF a) (kvF b) = kvF (jn a b)
  | [], _, _, _ => rfl
  | p :: r, a, h, hb => by
    show mergeK (putK (kvF a) (Sum.inr p.1) (V.str p.2)) (kvF r) = kvF (jn (setF a p.1 p.2) r)
    rw [kvF_put h.nd]
    exact kvF_merge (h.set (hb p.1 List.mem_cons_self)) fun k hk => hb k (List.mem_cons_of_mem _ hk)
theorem fok_nil (PT : List Str) : FOk PT [] := ⟨List.nodup_nil, fun _ h => nomatch h⟩
theorem jn_nil {a : Fs} (nd : (a.map (·.1)).Nodup) : jn [] a = a := by
  have key : ∀ (r l : Fs), ((l ++ r).map (·.1)).Nodup → jn l r = l ++ r := by
    intro r
    induction r with
    | nil => intro l _; exact (List.append_nil l).symm
    | cons p r ih =>
      intro l h
      have np : p.1 ∉ l.map (·.1) := fun m => by
        rw [List.map_append] at h
        exact (List.nodup_append.mp h).2.2 p.1 m p.1 List.mem_cons_self rfl
      have e : setF l p.1 p.2 = l ++ [(p.1, p.2)] := by
        have key : ∀ fs : Fs, p.1 ∉ fs.map (·.1) → setF fs p.1 p.2 = fs ++ [(p.1, p.2)] := by
          intro fs
          induction fs with
          | nil => intro _; rfl
          | cons q r ih =>
            intro m
            show (if q.1 = p.1 then (q.1, p.2) :: r else q :: setF r p.1 p.2) = q :: (r ++ [(p.1, p.2)])
            rw [if_neg (fun e => m (by rw [← e]; exact List.mem_cons_self)), ih fun z => m (List.mem_cons_of_mem _ z)]
        exact key l np
      show jn (setF l p.1 p.2) r = _
      rw [e, ih (l ++ [(p.1, p.2)]) (by rw [List.append_assoc]; exact h), List.append_assoc]
      rfl
  have := key a [] (by simpa using nd)
  simpa using this
/-! ### copy by copy -/
def upF (F : Str → Fs) (t : Str) (v : Fs) : Str → Fs := fun y => if y = t then v else F y
def stepF (F : Str → Fs) (c : Cp) : Str → Fs := upF F c.2.2 (if c.1 = Str.ofString "over" then jn (F c.2.2) (F c.2.1) else jn (F c.2.1) (F c.2.2))
def stepL (F : Str → Fs) (c : Cp) : Str → Fs := upF F c.2.2 (if c.1 = Str.ofString "over" then jn (F c.2.2) (F c.2.1) else jm (F c.2.2) (F c.2.1))
def runF (cs : List Cp) (F : Str → Fs) : Str → Fs := cs.foldl stepF F
def runL (cs : List Cp) (F : Str → Fs) : Str → Fs := cs.foldl stepL F
theorem runF_take {cs : List Cp} {F : Str → Fs} {i : Nat} {c : Cp} (h : cs[i]? = some c) : runF (cs.take (i + 1)) F = stepF (runF (cs.take i) F) c := by
  unfold runF
  rw [List.take_add_one, h, List.foldl_append]
  rfl
theorem runL_take {cs : List Cp} {F : Str → Fs} {i : Nat} {c : Cp} (h : cs[i]? = some c) : runL (cs.take (i + 1)) F = stepL (runL (cs.take i) F) c := by
  unfold runL
  rw [List.take_add_one, h, List.foldl_append]
  rfl
def AllOk (PT ys : List Str) (F : Str → Fs) : Prop := ∀ y ∈ ys, FOk PT (F y)
theorem allok_up {PT ys : List Str} {F : Str → Fs} {t : Str} {v : Fs} (h : AllOk PT ys F) (hv : FOk PT v) : AllOk PT ys (upF F t v) := fun y hy => by
  unfold upF
  split
  · exact hv
  · exact h y hy
theorem allok_F {PT ys : List Str} {F : Str → Fs} {c : Cp} (h : AllOk PT ys F) (hc : CpOk ys c) : AllOk PT ys (stepF F c) := by
  refine allok_up h ?_
  split
  · exact jn_ok (h _ hc.b) (h _ hc.a).sub
  · exact jn_ok (h _ hc.a) (h _ hc.b).sub
theorem allok_L {PT ys : List Str} {F : Str → Fs} {c : Cp} (h : AllOk PT ys F) (hc : CpOk ys c) : AllOk PT ys (stepL F c) := by
  refine allok_up h ?_
  split
  · exact jn_ok (h _ hc.b) (h _ hc.a).sub
  · exact jm_ok (h _ hc.b) (h _ hc.a).sub
theorem allok_runF {PT ys : List Str} : ∀ {cs : List Cp} {F : Str → Fs}, AllOk PT ys F → (∀ c ∈ cs, CpOk ys c) → AllOk PT ys (runF cs F)
  | [], _, h, _ => h
  | c :: cs, _, h, hc => allok_runF (cs := cs) (allok_F h (hc c List.mem_cons_self)) fun d hd => hc d (List.mem_cons_of_mem _ hd)
theorem allok_runL {PT ys : List Str} : ∀ {cs : List Cp} {F : Str → Fs}, AllOk PT ys F → (∀ c ∈ cs, CpOk ys c) → AllOk PT ys (runL cs F)
  | [], _, h, _ => h
  | c :: cs, _, h, hc => allok_runL (cs := cs) (allok_L h (hc c List.mem_cons_self)) fun d hd => hc d (List.mem_cons_of_mem _ hd)
def EqF (a b : Fs) : Prop := ∀ k, getF a k = getF b k
theorem eq_run {PT ys : List Str} : ∀ {cs : List Cp} {F G : Str → Fs}, AllOk PT ys F → AllOk PT ys G → (∀ c ∈ cs, CpOk ys c) → (∀ y ∈ ys, EqF (F y) (G y)) → ∀ y ∈ ys, EqF (runF cs F y) (runL cs G y)
  | [], _, _, _, _, _, e => e
  | c :: cs, F, G, hF, hG, hc, e => by
    have ck := hc c List.mem_cons_self
    refine eq_run (cs := cs) (F := stepF F c) (G := stepL G c) (allok_F hF ck) (allok_L hG ck) (fun d hd => hc d (List.mem_cons_of_mem _ hd)) fun y hy k => ?_
    show getF (if y = c.2.2 then _ else F y) k = getF (if y = c.2.2 then _ else G y) k
    by_cases z : y = c.2.2
    · rw [if_pos z, if_pos z]
      by_cases w : c.1 = Str.ofString "over"
      · rw [if_pos w, if_pos w, jn_get (hF _ ck.a).nd, jn_get (hG _ ck.a).nd, e _ ck.a k, e _ ck.b k]
      · rw [if_neg w, if_neg w, jn_get (hF _ ck.b).nd, jm_get (hG _ ck.a).nd, e _ ck.a k, e _ ck.b k]
    · rw [if_neg z, if_neg z]
      exact e y hy k
/-! ### with ascending paths -/
def IsSrt (fs gs : Fs) : Prop := ∃ ks : List Str, ks.Perm (fs.map (·.1)) ∧ sortedS ks = true ∧ gs = ks.map fun k => (k, (getF fs k).getD Str.empty)
theorem srt_one {PT : List Str} {fs fs' gs gs' : Fs} (h : FOk PT fs) (h' : FOk PT fs') (e : EqF fs fs') (s : IsSrt fs gs) (s' : IsSrt fs' gs') : gs = gs' := by
  obtain ⟨ks, pk, sk, rfl⟩ := s
  obtain ⟨ks', pk', sk', rfl⟩ := s'
  have pp : (fs'.map (·.1)).Perm (fs.map (·.1)) := (List.perm_ext_iff_of_nodup h'.nd h.nd).mpr fun k => by
    have q := e k
    constructor
    · intro m
      by_cases z : k ∈ fs.map (·.1)
      · exact z
      · rw [getF_none.mpr z] at q
        exact absurd m (getF_none.mp q.symm)
    · intro m
      by_cases z : k ∈ fs'.map (·.1)
      · exact z
      · rw [getF_none.mpr z] at q
        exact absurd m (getF_none.mp q)
  obtain rfl := sorted_one sk sk' pk (pk'.trans pp)
  exact List.map_congr_left fun k _ => by rw [e k]
end Cv

/-! part K11Y -/
set_option maxRecDepth 100000
set_option maxHeartbeats 4000000
namespace Cv
open PySem PySem.Spec PyProof.Rows L2
def signsP : Str := Str.ofString "abcdefghijklmnopqrstuvwxyz0123456789./"
def IsPt (x : Str) : Prop := 1 ≤ x.length ∧ x.length ≤ 20 ∧ ∀ c ∈ x.cps.toList, c ∈ signsP.cps.toList
structure Gc (mg : Str → Option Value) : Prop where
  lp : ∃ t, mg "LONGEST_PATH" = some (.int 20 t)
  ps : ∃ t, mg "PATH_SIGNS" = some (.str signsP t)
  mf : ∃ t, mg "MOST_FILES" = some (.int 40 t)
  mo : ∃ t, mg "MOST_FOLDERS" = some (.int 20 t)
def spPath : Sp := fun vs H Q _ => ∃ x, vs = [.str x] ∧ IsPt x ∧ ∀ H', Same H H' → Q (.bl true) H'
structure FilesOk (fs : Fs) : Prop where
  nd : (fs.map (·.1)).Nodup
  le : fs.length ≤ 40
  pt : ∀ p ∈ fs, IsPt p.1
def spFiles : Sp := fun vs H Q _ => ∃ (d : Addr) (fs : Fs), vs = [.ref d] ∧ H d = some (.dK (kvF fs)) ∧ FilesOk fs ∧ ∀ H', Same H H' → Q (.bl true) H'
theorem strs_at {ys : List Str} {i : Nat} {x : V} (hc : (ys.map V.str)[i]? = some x) : ∃ y, ys[i]? = some y ∧ x = .str y := by
  rw [List.getElem?_map] at hc
  cases h : ys[i]? with
  | none => rw [h] at hc; cases hc
  | some y => rw [h] at hc; cases hc; exact ⟨y, rfl, rfl⟩
theorem item_at {fs : Fs} {i : Nat} {p : Str × Str} {x y : V} (hp : fs[i]? = some p) (hx : ((kvF fs)[i]?.map fun kv => kV kv.1) = some x) (hy : ((kvF fs)[i]?.map Prod.snd) = some y) : x = V.str p.1 ∧ y = V.str p.2 := by
  have ek : (kvF fs)[i]? = some (Sum.inr p.1, V.str p.2) := by rw [List.getElem?_map, hp]; rfl
  rw [ek] at hx hy
  exact ⟨(Option.some.inj hx).symm, (Option.some.inj hy).symm⟩
theorem all_true : ∀ n : Nat, ((List.replicate n true)).all id = true
  | 0 => rfl
  | n + 1 => by
    show (id true && (List.replicate n true).all id) = true
    rw [all_true n]
    rfl
theorem rep_snoc (n : Nat) : (List.replicate n true).map V.bl ++ [V.bl true] = (List.replicate (n + 1) true).map V.bl := by
  rw [List.replicate_succ', List.map_append]
  rfl
section
variable {P : Program} {w : World} {K : PySem.W.Frag} {mg : Str → Option Value} {base : Heap}
theorem scPt : FnScope ["value", "sign"] ["value"] (defScope sPath) := ⟨rfl, rfl, rfl, by decide +kernel, rfl, by decide +kernel, by decide +kernel⟩
theorem ok_path {f : Addr} {fd : FuncData} (F : Fun K "is_path" "is_path" sPath f fd) (B : Bl mg) (G : Gc mg) : FnOk P w K mg base CX0 1 f fd ["value"] spPath := by
  obtain ⟨t1, g1⟩ := G.lp
  obtain ⟨t2, g2⟩ := G.ps
  refine F.ok scPt (fun vs H Q E h => ?_) (fun cdv A outer s H vs Q E hr h => ?_)
  · obtain ⟨x, rfl, _⟩ := h
    rfl
  · obtain ⟨x, rfl, hx, q⟩ := h
    refine ⟨_, pss_cons (ps_if (PW.pt (pw_or (pt_not (pt_val (pe_callB call_isi (by rfl) B.isi (by decide +kernel) (pa_cons (pv 0) (pa_cons (pe_bltn (v := .ty "str") (u := .type "str") (by rfl) B.str (by decide +kernel) rfl) pa_nil)))))
          (pw_or1 (pt_not (pt_chain op_le op_le pe_int (pe_callB call_len_str (by rfl) B.len PySem.boot_len (pa_cons (pv 0) pa_nil)) (pe_glob (v := .int 20) (by rfl) g1 ⟨_, rfl⟩))))))
        (pss_one (ps_ret pe_bl)) pss_nil)
      (pss_one (ps_ret (pe_callB (cr_all rfl) (by rfl) B.all (by decide +kernel) (pa_cons (pe_lc (own := [("sign", 1)]) (tt := tYes) rfl scPt.nd (pi_str (pv 0)) (blkOk_by (N := ["value", "sign"]) (sc := defScope sPath) (by decide +kernel))
        (fun _ _ _ _ _ => pg_name (i := 1) scPt.nd rfl (.inl rfl)) (fun _ _ _ _ _ => pts_nil) (fun _ _ _ _ _ => pe_cmpR op_in_sign (pv 1) (pe_glob (v := .str signsP) (by rfl) g2 ⟨_, rfl⟩) rfl)) pa_nil)))), ?_⟩
    have hd : Dx K H 0 (.str x) (.str x) := .str x
    refine ⟨.str x, rfl, .str x, .ty "str", _, _, _, rfl, .ty "str", hd.ty, kit_ty (kit_str _), _, rfl, ?_⟩
    refine ⟨_, rfl, x, rfl, Nat.le_trans hx.2.1 (by decide), 1, _, rfl, rfl, _, rfl, ?_⟩
    show if decide ((1 : Int) ≤ (x.length : Int)) = true then _ else _
    rw [decide_eq_true (show (1 : Int) ≤ (x.length : Int) by have := hx.1; omega)]
    refine ⟨_, 20, rfl, rfl, _, rfl, ?_⟩
    show if (!decide ((x.length : Int) ≤ 20)) = true then _ else _
    rw [decide_eq_true (show (x.length : Int) ≤ 20 by have := hx.2.1; omega)]
    refine ⟨_, rfl, x, rfl, fun D nD => ?_⟩
    refine lc_it walk_str (fun i H' => H' D = some (.lst ((List.replicate i true).map V.bl)) ∧ Same H H') ⟨upd_same, same_new nD⟩ (fun _ _ _ _ => trivial) ?_ ?_
    · rintro i y H1 H2 hi ⟨hD, e1⟩ ⟨rfl, c, hc, rfl⟩
      have hc' : c ∈ signsP.cps.toList := hx.2.2 c (List.mem_of_getElem? (i := i) (by rw [Array.getElem?_toList]; exact hc))
      have l20 : x.cps.size ≤ 20 := hx.2.1
      refine ⟨rfl, _, rfl, c, signsP, rfl, rfl, ?_⟩
      rw [decide_eq_true hc']
      exact ⟨_, hD, by rw [List.length_map, List.length_replicate]; exact small1000 (by omega), by rw [upd_same, rep_snoc], same_up e1 nD⟩
    · rintro H1 ⟨hD, e1⟩
      refine ⟨D, _, rfl, sqOf0 hD, ?_⟩
      rw [all_true]
      exact q H1 e1
theorem scFs : FnScope ["value", "path", "text"] ["value"] (defScope sFiles) := ⟨rfl, rfl, rfl, by decide +kernel, rfl, by decide +kernel, by decide +kernel⟩
theorem ok_files {f : Addr} {fd : FuncData} (F : Fun K "are_files" "are_files" sFiles f fd) (B : Bl mg) (G : Gc mg) (DP : Has P w K mg base CX0 1 "is_path" ["value"] spPath) : FnOk P w K mg base CX0 2 f fd ["value"] spFiles := by
  obtain ⟨t1, g1⟩ := G.mf
  refine F.ok scFs (fun vs H Q E h => ?_) (fun cdv A outer s H vs Q E hr h => ?_)
  · obtain ⟨d, fs, rfl, _⟩ := h
    rfl
  · obtain ⟨d, fs, rfl, hd, FO, q⟩ := h
    refine ⟨_, pss_cons (ps_if (PW.pt (pw_or (pt_not (pt_val (pe_callB call_isi (by rfl) B.isi (by decide +kernel) (pa_cons (pv 0) (pa_cons (pe_bltn (v := .ty "dict") (u := .type "dict") (by rfl) B.dict (by decide +kernel) rfl) pa_nil)))))
          (pw_or1 (pt_cmpR op_gt (pe_callB call_lenD (by rfl) B.len PySem.boot_len (pa_cons (pv 0) pa_nil)) (pe_glob (v := .int 40) (by rfl) g1 ⟨_, rfl⟩) (nomark _)))))
        (pss_one (ps_ret pe_bl)) pss_nil)
      (pss_one (ps_ret (pe_callB (cr_all rfl) (by rfl) B.all (by decide +kernel) (pa_cons (pe_lock (pe_lc (own := [("path", 1), ("text", 2)]) (g := gTup K 2 (gCons (gName 1) (gCons (gName 2) gNil))) (tt := tYes) (te := tAndV (tCl spPath E0 (tCons (tVar 1) tNil)) (tCB (rIsi K) (tCons (tVar 2) (tCons (tC (.ty "str")) tNil)))) rfl scFs.nd (pi_items (pv 0)) (blkOk_by (N := ["value", "path", "text"]) (sc := defScope sFiles) (by decide +kernel))
        ?g2 (fun _ _ _ _ _ => pts_nil) (fun _ _ _ _ _ => pe_and (pe_has DP hr pass0 (pa_cons (pv 1) pa_nil)) (pe_one (pe_callB call_isi (by rfl) B.isi (by decide +kernel) (pa_cons (pv 2) (pa_cons (pe_bltn (v := .ty "str") (u := .type "str") (by rfl) B.str (by decide +kernel) rfl) pa_nil))))))) pa_nil)))), ?_⟩
    case g2 => exact fun _ _ _ _ _ => pg_tup rfl (pgs_cons (pg_name (i := 1) scFs.nd rfl (.inl rfl)) (pgs_cons (pg_name (i := 2) scFs.nd rfl (.inl rfl)) pgs_nil))
    have lk : (kvF fs).length = fs.length := List.length_map ..
    refine ⟨.ref d, rfl, .ref d, .ty "dict", _, _, _, rfl, .ty "dict", .base (.dK hd), kit_ty (r := true) (by decide +kernel), _, rfl, ?_⟩
    show if (!true) = true then _ else _
    refine ⟨_, rfl, d, _, rfl, hd, _, 40, rfl, rfl, _, rfl, ?_⟩
    rw [lk, decide_eq_false (show ¬ (40 : Int) < (fs.length : Int) by have := FO.le; omega)]
    show if false = true then _ else _
    refine ⟨d, _, hd, trivial, fun od => ?_⟩
    have fz : upd H d (.frz od (.dK (kvF fs))) d = some (.frz od (.dK (kvF fs))) := upd_same
    have g0 : ∀ b o, b ≠ d → H b = some o → upd H d (.frz od (.dK (kvF fs))) b = some o := fun b o n e => (upd_ne n).trans e
    generalize upd H d (.frz od (.dK (kvF fs))) = H1 at fz g0 ⊢
    refine ⟨_, rfl, d, od, _, rfl, fz, fun D nD => ?_⟩
    refine lc_it (walk_items (kvs := kvF fs)) (fun i H' => H' D = some (.lst ((List.replicate i true).map V.bl)) ∧ Same H1 H') ⟨upd_same, same_new nD⟩ (fun i H' _ h => h.2 _ _ fz) ?_ ?_
    · rintro i v H2 H3 hi ⟨hD, e2⟩ ⟨Tp, x, y, rfl, nT, rfl, hx, hy⟩
      rw [lk] at hi
      obtain ⟨p, hp⟩ : ∃ p, fs[i]? = some p := ⟨fs[i], List.getElem?_eq_getElem hi⟩
      obtain ⟨rfl, rfl⟩ := item_at hp hx hy
      have e3 : Same H2 (upd H2 Tp (.tup [V.str p.1, V.str p.2])) := same_new nT
      refine ⟨Tp, _, rfl, stOf upd_same, rfl, _, _, rfl, _, _, rfl, rfl, ?_⟩
      have hD3 := e3 _ _ hD
      refine ⟨rfl, _, rfl, p.1, rfl, FO.pt p (List.mem_of_getElem? hp), fun H4 e4 => ⟨_, rfl, ?_⟩⟩
      show if true = true then _ else _
      have hs : Dx K H4 0 (.str p.2) (.str p.2) := .str _
      refine ⟨_, rfl, .str p.2, .ty "str", _, _, _, rfl, .ty "str", hs.ty, kit_ty (kit_str _), ?_⟩
      exact ⟨_, e4 _ _ hD3, by rw [List.length_map, List.length_replicate]; exact small1000 (by have := FO.le; omega), by rw [upd_same]; exact congrArg (fun z => some (HO.lst z)) (rep_snoc i), same_up (e2.trans (e3.trans e4)) nD⟩
    · rintro H2 ⟨hD, e2⟩
      refine ⟨e2 _ _ fz, ?_⟩
      have Dd : D ≠ d := fun z => by rw [z, fz] at nD; cases nD
      refine ⟨D, _, rfl, sqOf0 ((upd_ne Dd).trans hD), ?_⟩
      rw [all_true]
      refine q _ fun b o e => ?_
      by_cases z : b = d
      · rw [z, upd_same]
        rw [z, hd] at e
        exact e
      · exact (upd_ne z).trans (e2 _ _ (g0 b o z e))
end
end Cv

/-! part B19 -/
set_option maxRecDepth 100000
set_option maxHeartbeats 4000000
namespace Cv
open PySem PySem.Spec PyProof.Rows L2
open PySem.W (Frag)
theorem sameL {K : Frag} {H H' : Hp} {a : Addr} {xs : List V} (e : Same H H') (h : SqL K H a xs) : SqL K H' a xs := eff_l (j := a + 1) (Eff.same e) (Nat.ne_of_lt (Nat.lt_succ_self a)) h
theorem sameT {K : Frag} {H H' : Hp} {a : Addr} {xs : List V} (e : Same H H') (h : SqT K H a xs) : SqT K H' a xs := eff_t (j := a + 1) (Eff.same e) (Nat.ne_of_lt (Nat.lt_succ_self a)) h
/-- names in a tuple, or the keys of a dict -/
def FolAt (K : Frag) (H : Hp) (v : V) (ys : List Str) : Prop := ∃ a, v = .ref a ∧ (SqT K H a (ys.map V.str) ∨ ∃ kvs : List (Key × V), Rd H a (.dK kvs) ∧ kvs.map (·.1) = ys.map Sum.inr)
theorem FolAt.same {K : Frag} {H H' : Hp} {v : V} {ys : List Str} (h : FolAt K H v ys) (e : Same H H') : FolAt K H' v ys := by
  obtain ⟨a, rfl, h | ⟨kvs, h, k⟩⟩ := h
  · exact ⟨a, rfl, .inl (eff_t (j := a + 1) (Eff.same e) (Nat.ne_of_lt (Nat.lt_succ_self a)) h)⟩
  · exact ⟨a, rfl, .inr ⟨kvs, eff_rd (j := a + 1) (Eff.same e) (Nat.ne_of_lt (Nat.lt_succ_self a)) h, k⟩⟩
theorem keys_valV : ∀ {kvs : List (Key × V)} {ys : List Str} (x : Str), kvs.map (·.1) = ys.map Sum.inr → (valV kvs (Sum.inr x)).isSome = decide (x ∈ ys)
  | [], [], x, _ => rfl
  | (k, v) :: kvs, y :: ys, x, h => by
    have h1 : k = Sum.inr y := (List.cons.inj h).1
    have h2 := (List.cons.inj h).2
    subst h1
    by_cases e : y = x
    · subst e
      rw [valV_pos rfl, decide_eq_true List.mem_cons_self]
      rfl
    · rw [valV_neg (fun z => e (Sum.inr.inj z)), keys_valV x h2]
      have : (x ∈ y :: ys) ↔ x ∈ ys := by
        rw [List.mem_cons]
        exact ⟨fun h => h.resolve_left fun z => e z.symm, .inr⟩
      rw [decide_eq_decide.mpr this]
  | [], _ :: _, _, h => by cases h
  | _ :: _, [], _, h => by cases h
section
variable {X : Cx}
/-- x in names -/
def rInE (K : Frag) : R2 := fun x y H Q => rIn K false x y H Q ∨ ∃ a o, y = .ref a ∧ DGet H a x o ∧ Q (.bl o.isSome) H
theorem op_inE (hu : X.A.units + 1 < cLine) : OpR X (compareOp .In) (rInE X.K) := by
  intro pins s σ H x y v u Q I rx ry h
  rcases h with h | ⟨a, o, rfl, g, q⟩
  · exact op_in_seq pins s σ H x y v u Q I rx ry h
  · obtain rfl : u = Value.ref a := ry
    exact d_in hu I g rx fun s3 I3 => ⟨.bl o.isSome, H, I3, rfl, q⟩
theorem inV_strs' (x : Str) (ys : List Str) : inV (.str x) (ys.map V.str) = decide (x ∈ ys) := by
  unfold inV
  rw [List.any_map, Bool.eq_iff_iff, List.any_eq_true, decide_eq_true_eq]
  constructor
  · rintro ⟨y, hy, e⟩
    have e2 : decide (y = x) = true := e
    exact of_decide_eq_true e2 ▸ hy
  · intro h
    exact ⟨x, h, show decide (x = x) = true from decide_eq_true rfl⟩
theorem inE_of {K : Frag} {H : Hp} {v : V} {ys : List Str} {x : Str} {Q : VK} (h : FolAt K H v ys) (q : Q (.bl (decide (x ∈ ys))) H) : rInE K (.str x) v H Q := by
  obtain ⟨a, rfl, h | ⟨kvs, h, k⟩⟩ := h
  · refine .inl ⟨a, _, rfl, .inr h, rfl, ?_, ?_⟩
    · rw [List.all_map, List.all_eq_true]
      intro y _
      rfl
    · show Q (.bl (inV (.str x) (ys.map V.str))) H
      rw [inV_strs']
      exact q
  · refine .inr ⟨a, valV kvs (Sum.inr x), rfl, .inl ⟨kvs, Sum.inr x, h, rfl, rfl⟩, ?_⟩
    rw [keys_valV x k]
    exact q
/-! ### len(set(l)), l a list or a tuple of texts -/
def tLenSetE (K : Frag) (ta : TE) : TE := fun σ H Q => ta σ H fun x H1 => ∃ (l : Addr) (xs : List Str), x = V.ref l ∧ (SqL K H1 l (xs.map V.str) ∨ SqT K H1 l (xs.map V.str)) ∧ xs.length ≤ 4000 ∧ ∀ ys : List Str, ys.Nodup → (∀ y, y ∈ ys ↔ y ∈ xs) → Q (.int ys.length) H1
theorem pe_lenSetE {a : Expr} {ta : TE} {p p2 q pos : Pos} (hc : X.calm = true) (hg : Gl X "len") (hm : X.mg "len" = none) (hg2 : Gl X "set") (hm2 : X.mg "set" = none) (ha : PE X a ta)
    (na : starEach [a] X.env = (false, eval a X.env) :: starEach [] X.env := by rfl) : PE X (.Call (.Name "len" p) [.Call (.Name "set" p2) [a] [] q] [] pos) (tLenSetE X.K ta) := by
  refine ⟨fun pins s σ H Q I h => ?_⟩
  refine Call_ (ld_blt I hg hm PySem.boot_len (PyProof.Rows.callWith_builtin1 (PyProof.Rows.args_cons (Call_ (ld_blt I hg2 hm2 PyProof.Rows.boot_set
    (PyProof.Rows.callWith_type1 (PyProof.Rows.args_cons (thn (ha.run pins s σ H _ I h) fun v s1 ⟨x, H1, I1, r1, q1⟩ => PyProof.Rows.args_nil ?_) na) na rfl))) rfl) rfl rfl))
  obtain ⟨l, xs, rfl, hq, hz, q1⟩ := q1
  cases r1
  have hl : ∃ its, Vals (xs.map V.str) its ∧ (s1.heap.IsTuple l its.toArray ∨ s1.heap.IsList l its.toArray) := by
    rcases hq with hq | hq
    · obtain ⟨its, r, pt, _⟩ := I1.list hq
      exact ⟨its, r, .inr pt.isList⟩
    · obtain ⟨its, r, pt, _⟩ := I1.tuple hq
      exact ⟨its, r, .inl pt⟩
  obtain ⟨its, r, pt⟩ := hl
  refine sx_of (I1.ok.hd hc) pt (xs := xs) (by simpa using r.strs) (by unfold scanBound; omega) fun h' tk ys hS nd hm ll hk => PyProof.Rows.args_nil ?_
  obtain ⟨⟨es, ep, t⟩, ho, F, _, _⟩ := hS.ex
  have I2 : Inv X pins σ H1 { s1 with heap := h', toks := tk } := I1.kept hk
  have sz : es.size = ys.length := F.sz
  refine call_len_set ho ⟨rfl, rfl, rfl⟩ rfl F.fit (by rw [sz]; omega) ⟨.int ys.length, H1, I2.tok _, ⟨_, by rw [sz]⟩, q1 ys nd hm⟩
/-! ### walks over a list or a tuple -/
def SeqR (K : Frag) (a : Addr) (H1 : Hp) (R : It → Hp → Prop) : Prop := ((∃ xs, SqL K H1 a xs) ∧ R (Itl K a) H1) ∨ ((∃ xs, SqT K H1 a xs) ∧ R (Itt K a) H1)
def iSeq (K : Frag) (tl : TE) : TI := fun σ H R => tl σ H fun x H1 => ∃ a, x = .ref a ∧ SeqR K a H1 R
theorem pi_seq {tg l : Expr} {tl : TE} (hl : PE X l tl) : PI X tg l (iSeq X.K tl) := by
  refine ⟨fun pins s σ H R I h => ?_⟩
  refine thn (hl.run pins s σ H _ I h) fun v s1 ⟨x, H1, I1, r1, q1⟩ => ?_
  obtain ⟨a, e, q⟩ := q1
  subst e
  cases r1
  rcases q with ⟨⟨xs, hq⟩, q⟩ | ⟨⟨xs, hq⟩, q⟩
  · obtain ⟨its, rv, p, hz⟩ := I1.list hq
    refine wpAny_pyIter_list p.isList ?_
    refine ⟨s1.heap.objs.size, [s1.heap.objs.size], _, _, H1, rfl, I1.kept (t' := s1.toks) fun b o e => Heap.get?_push_of_some _ e, turn_list a _, ⟨_, Heap.get?_push_size _ rfl, rfl, rfl⟩, fun b hb => ?_, q⟩
    have e : b = s1.heap.objs.size := by simpa using hb
    subst e
    exact I1.fpOk (Nat.le_refl _) (I1.hok.fresh (Nat.le_refl _))
  · obtain ⟨its, rv, p, hz⟩ := I1.tuple hq
    refine wpAny_pyIter_tuple (show s1.heap.IsTuple a its.toArray from p) ?_
    refine ⟨s1.heap.objs.size, [s1.heap.objs.size], _, _, H1, rfl, I1.kept (t' := s1.toks) fun b o e => Heap.get?_push_of_some _ e, turn_tuple a _, ⟨_, Heap.get?_push_size _ rfl, rfl, rfl⟩, fun b hb => ?_, q⟩
    have e : b = s1.heap.objs.size := by simpa using hb
    subst e
    exact I1.fpOk (Nat.le_refl _) (I1.hok.fresh (Nat.le_refl _))
theorem iSeq_of {K : Frag} {H1 : Hp} {R : It → Hp → Prop} {a : Addr} {xs : List V} (hs : SqL K H1 a xs ∨ SqT K H1 a xs)
    (q : ∀ (J : It) (G : Hp → Prop), Walk J xs.length G (YAt xs) → (∀ H', Same H1 H' → G H') → R J H1) : SeqR K a H1 R := by
  rcases hs with hs | hs
  · exact .inl ⟨⟨xs, hs⟩, q _ _ (walk_list (K := K) (a := a)) fun H' e => eff_l (j := a + 1) (Eff.same e) (Nat.ne_of_lt (Nat.lt_succ_self a)) hs⟩
  · exact .inr ⟨⟨xs, hs⟩, q _ _ (walk_tup (K := K) (a := a)) fun H' e => eff_t (j := a + 1) (Eff.same e) (Nat.ne_of_lt (Nat.lt_succ_self a)) hs⟩
end
end Cv

/-! part K11CD -/
set_option maxRecDepth 100000
set_option maxHeartbeats 4000000
namespace Cv
open PySem PySem.Spec PyProof.Rows L2
def isDic : PyData → Bool
  | .dict _ => true
  | _ => false
theorem kit_dic : ∀ d : PyData, kitB (tyN d) "dict" = some (isDic d)
  | .none => by decide +kernel
  | .bool _ => by show kitB "bool" "dict" = some false; decide +kernel
  | .int _ => by show kitB "int" "dict" = some false; decide +kernel
  | .str _ => by show kitB "str" "dict" = some false; decide +kernel
  | .list _ => by show kitB "list" "dict" = some false; decide +kernel
  | .tuple _ => by show kitB "tuple" "dict" = some false; decide +kernel
  | .dict _ => by show kitB "dict" "dict" = some true; decide +kernel
def hasNamesK (ks : List PyData) : Bool := (decide (1 ≤ ks.length) && decide (ks.length ≤ 20)) && ks.all isNameD
def spHasN (K : PySem.W.Frag) : Sp := fun vs H Q _ => (∃ (j : Addr) (v : V) (d : PyData), vs = [v] ∧ Dx K H j v d ∧ isDic d = false ∧ ∀ H', Same H H' → Q (.bl false) H') ∨
  (∃ (c : Addr) (kvs : List (Key × V)), vs = [.ref c] ∧ H c = some (.dK kvs) ∧ (∀ kv ∈ kvs, smD (keyD kv.1) = true) ∧ ∀ H', Same H H' → Q (.bl (hasNamesK (kvs.map fun kv => keyD kv.1))) H')
theorem key_dx {K : PySem.W.Frag} {H : Hp} {j : Addr} : ∀ k : Key, Dx K H j (kV k) (keyD k)
  | .inl i => .int i
  | .inr x => .str x
section
variable {P : Program} {w : World} {K : PySem.W.Frag} {mg : Str → Option Value} {base : Heap}
theorem scHn : FnScope ["value", "name"] ["value"] (defScope sHasNames) := ⟨rfl, rfl, rfl, by decide +kernel, rfl, by decide +kernel, by decide +kernel⟩
theorem ok_hasN {f : Addr} {fd : FuncData} (F : Fun K "has_names" "has_names" sHasNames f fd) (B : Bl mg) (GM : ∃ t, mg "MOST_FOLDERS" = some (.int 20 t)) (DN : Has P w K mg base CX0 1 "is_name" ["value"] (spD K isNameD)) : FnOk P w K mg base CX0 2 f fd ["value"] (spHasN K) := by
  obtain ⟨t1, g1⟩ := GM
  refine F.ok scHn (fun vs H Q E h => ?_) (fun cdv A outer s H vs Q E hr h => ?_)
  · rcases h with ⟨j, v, d, rfl, _⟩ | ⟨c, kvs, rfl, _⟩ <;> rfl
  · refine ⟨_, pss_cons (ps_if (PW.pt (pw_or (pt_not (pt_val (pe_callB call_isi (by rfl) B.isi (by decide +kernel) (pa_cons (pv 0) (pa_cons (pe_bltn (v := .ty "dict") (u := .type "dict") (by rfl) B.dict (by decide +kernel) rfl) pa_nil)))))
          (pw_or1 (pt_not (pt_chain op_le op_le pe_int (pe_callB call_lenD (by rfl) B.len PySem.boot_len (pa_cons (pv 0) pa_nil)) (pe_glob (v := .int 20) (by rfl) g1 ⟨_, rfl⟩))))))
        (pss_one (ps_ret pe_bl)) pss_nil)
      (pss_one (ps_ret (pe_callB (cr_all rfl) (by rfl) B.all (by decide +kernel) (pa_cons (pe_lock (pe_lc (own := [("name", 1)]) (tt := tYes) (te := tCl (spD K isNameD) E0 (tCons (tVar 1) tNil)) rfl scHn.nd (pi_keys (pv 0)) (blkOk_by (N := ["value", "name"]) (sc := defScope sHasNames) (by decide +kernel))
        (fun _ _ _ _ _ => pg_name (i := 1) scHn.nd rfl (.inl rfl)) (fun _ _ _ _ _ => pts_nil) (fun _ _ _ _ _ => pe_has DN hr pass0 (pa_cons (pv 1) pa_nil)))) pa_nil)))), ?_⟩
    rcases h with ⟨j, v, d, rfl, hx, nd, q⟩ | ⟨c, kvs, rfl, hd, sm, q⟩
    · refine ⟨v, rfl, v, .ty "dict", _, _, _, rfl, .ty "dict", hx.ty, kit_ty (kit_dic d), isDic d, rfl, ?_⟩
      rw [nd]
      exact q H (Same.refl H)
    · have lk : (kvs.map fun kv => keyD kv.1).length = kvs.length := List.length_map ..
      refine ⟨.ref c, rfl, .ref c, .ty "dict", _, _, _, rfl, .ty "dict", .base (.dK hd), kit_ty (r := true) (by decide +kernel), _, rfl, ?_⟩
      show if (!true) = true then _ else _
      refine ⟨_, rfl, c, _, rfl, hd, 1, _, rfl, rfl, _, rfl, ?_⟩
      have out : ¬ (1 ≤ kvs.length ∧ kvs.length ≤ 20) → Q (.bl false) H := fun h => by
        have := q H (Same.refl H)
        rw [hasNamesK, lk] at this
        by_cases h1 : 1 ≤ kvs.length
        · rw [decide_eq_false (show ¬ kvs.length ≤ 20 from fun z => h ⟨h1, z⟩), Bool.and_false, Bool.false_and] at this
          exact this
        · rw [decide_eq_false h1, Bool.false_and, Bool.false_and] at this
          exact this
      show if decide ((1 : Int) ≤ (kvs.length : Int)) = true then _ else _
      refine ite2 (fun c1 => ?_) (fun c1 => ?_)
      · refine ⟨_, 20, rfl, rfl, _, rfl, ?_⟩
        show if (!decide ((kvs.length : Int) ≤ 20)) = true then _ else _
        refine ite2 (fun c4 => ?_) (fun c4 => ?_)
        · refine out fun z => ?_
          rw [decide_eq_true (show (kvs.length : Int) ≤ 20 by omega)] at c4
          exact nomatch c4
        · have lo : 1 ≤ kvs.length := by have := of_decide_eq_true c1; omega
          have hi : kvs.length ≤ 20 := by
            by_cases z : (kvs.length : Int) ≤ 20
            · omega
            · rw [decide_eq_false z] at c4
              exact absurd rfl c4
          refine ⟨c, _, hd, trivial, fun od => ?_⟩
          have fz : upd H c (.frz od (.dK kvs)) c = some (.frz od (.dK kvs)) := upd_same
          have g0 : ∀ b o, b ≠ c → H b = some o → upd H c (.frz od (.dK kvs)) b = some o := fun b o n e => (upd_ne n).trans e
          generalize upd H c (.frz od (.dK kvs)) = H1 at fz g0 ⊢
          refine ⟨_, rfl, c, od, rfl, .inl ⟨_, fz, fun D nD => ?_⟩⟩
          refine lc_it (walk_keys (kvs := kvs)) (fun i H' => H' D = some (.lst ((((kvs.map fun kv => keyD kv.1).take i).map isNameD).map V.bl)) ∧ Same H1 H') ⟨upd_same, same_new nD⟩ (fun i H' _ h => h.2 _ _ fz) ?_ ?_
          · rintro i x H3 H4 hi9 ⟨hD, e4⟩ ⟨rfl, kk, vv, hkv, rfl⟩
            refine ⟨rfl, _, rfl, 0, kV kk, keyD kk, rfl, key_dx kk, sm _ (List.mem_of_getElem? hkv), fun H5 e5 => ?_⟩
            refine ⟨_, e5 _ _ hD, ?_, ?_, same_up (e4.trans e5) nD⟩
            · rw [List.length_map, List.length_map, List.length_take]
              exact Nat.lt_of_le_of_lt (show _ ≤ 1000 by omega) (by decide)
            · have hk2 : (kvs.map fun kv => keyD kv.1)[i]? = some (keyD kk) := by rw [List.getElem?_map, hkv]; rfl
              rw [upd_same, List.take_add_one, hk2, List.map_append, List.map_append]
              rfl
          · rintro H2 ⟨hD, e2⟩
            refine ⟨e2 _ _ fz, ?_⟩
            have Dd : D ≠ c := fun z => by rw [z, fz] at nD; cases nD
            refine ⟨D, _, rfl, sqOf0 ((upd_ne Dd).trans hD), ?_⟩
            have e : (((kvs.map fun kv => keyD kv.1).take kvs.length).map isNameD).all id = (kvs.map fun kv => keyD kv.1).all isNameD := by
              rw [List.take_of_length_le (by rw [lk]; exact Nat.le_refl _), List.all_map]
              rfl
            rw [e]
            have := q (upd H2 c (.dK kvs)) fun b o e => by
              by_cases z : b = c
              · rw [z, upd_same]
                rw [z, hd] at e
                exact e
              · exact (upd_ne z).trans (e2 _ _ (g0 b o z e))
            rw [hasNamesK, lk, decide_eq_true lo, decide_eq_true hi, Bool.true_and, Bool.true_and] at this
            exact this
      · refine ⟨_, rfl, ?_⟩
        show if (!false) = true then _ else _
        exact out fun z => c1 (decide_eq_true (show (1 : Int) ≤ (kvs.length : Int) by omega))
end
end Cv

/-! part K11Z -/
set_option maxRecDepth 100000
set_option maxHeartbeats 4000000
namespace Cv
open PySem PySem.Spec PyProof.Rows L2
/-- contents at c: the names, where their files stand -/
structure ConAt (H : Hp) (c : Addr) (ks : List Str) (ad : Str → Addr) (F : Str → Fs) : Prop where
  at_ : H c = some (.dK (kvR ks ad))
  files : ∀ y ∈ ks, H (ad y) = some (.dK (kvF (F y)))
  ne : ∀ y ∈ ks, ad y ≠ c
structure ConOk (ks : List Str) (F : Str → Fs) : Prop where
  fo : Fold ks
  fi : ∀ y ∈ ks, FilesOk (F y)
theorem ConAt.same {H H' : Hp} {c : Addr} {ks : List Str} {ad : Str → Addr} {F : Str → Fs} (h : ConAt H c ks ad F) (e : Same H H') : ConAt H' c ks ad F := ⟨e _ _ h.at_, fun y hy => e _ _ (h.files y hy), h.ne⟩
def spCont : Sp := fun vs H Q _ => ∃ (c : Addr) (ks : List Str) (ad : Str → Addr) (F : Str → Fs), vs = [.ref c] ∧ ConAt H c ks ad F ∧ ConOk ks F ∧ ∀ H', Same H H' → Q (.bl true) H'
def spSrtF : Sp := fun vs H Q _ => ∃ (d : Addr) (fs : Fs), vs = [.ref d] ∧ H d = some (.dK (kvF fs)) ∧ (fs.map (·.1)).Nodup ∧ fs.length ≤ 40 ∧ ∀ (r : Addr) (gs : Fs) (H' : Hp), IsSrt fs gs → H r = none → H' r = some (.dK (kvF gs)) → Same H H' → Q (.ref r) H'
theorem kvF_map (l : List Str) (f : Str → Str) : kvF (l.map fun k => (k, f k)) = kvS l fun k => V.str (f k) := by
  show (l.map fun k => (k, f k)).map (fun p => ((Sum.inr p.1 : Key), V.str p.2)) = _
  rw [List.map_map]
  rfl
theorem kvR_at {ks : List Str} {ad : Str → Addr} {i : Nat} {y : Str} {x z : V} (hp : ks[i]? = some y) (hx : ((kvR ks ad)[i]?.map fun kv => kV kv.1) = some x) (hy : ((kvR ks ad)[i]?.map Prod.snd) = some z) : x = V.str y ∧ z = V.ref (ad y) := by
  have ek : (kvR ks ad)[i]? = some (Sum.inr y, V.ref (ad y)) := by rw [List.getElem?_map, hp]; rfl
  rw [ek] at hx hy
  exact ⟨(Option.some.inj hx).symm, (Option.some.inj hy).symm⟩
section
variable {P : Program} {w : World} {K : PySem.W.Frag} {mg : Str → Option Value} {base : Heap}
theorem scCt : FnScope ["value", "files"] ["value"] (defScope sCont) := ⟨rfl, rfl, rfl, by decide +kernel, rfl, by decide +kernel, by decide +kernel⟩
theorem ok_cont {f : Addr} {fd : FuncData} (F : Fun K "are_contents" "are_contents" sCont f fd) (B : Bl mg) (DH : Has P w K mg base CX0 2 "has_names" ["value"] (spHasN K)) (DF : Has P w K mg base CX0 2 "are_files" ["value"] spFiles) : FnOk P w K mg base CX0 3 f fd ["value"] spCont := by
  refine F.ok scCt (fun vs H Q E h => ?_) (fun cdv A outer s H vs Q E hr h => ?_)
  · obtain ⟨c, ks, ad, F, rfl, _⟩ := h
    rfl
  · obtain ⟨c, ks, ad, FF, rfl, CA, CO, q⟩ := h
    refine ⟨_, pss_one (ps_ret (pe_and (pe_has DH hr pass0 (pa_cons (pv 0) pa_nil)) (pe_one (pe_callB (cr_all rfl) (by rfl) B.all (by decide +kernel) (pa_cons (pe_lock (pe_lc (own := [("files", 1)]) (tt := tYes) (te := tCl spFiles E0 (tCons (tVar 1) tNil)) rfl scCt.nd (pi_values (pv 0)) (blkOk_by (N := ["value", "files"]) (sc := defScope sCont) (by decide +kernel))
        (fun _ _ _ _ _ => pg_name (i := 1) scCt.nd rfl (.inl rfl)) (fun _ _ _ _ _ => pts_nil) (fun _ _ _ _ _ => pe_has DF hr pass0 (pa_cons (pv 1) pa_nil)))) pa_nil))))), ?_⟩
    have lk : (kvR ks ad).length = ks.length := List.length_map ..
    have ek : (kvR ks ad).map (fun kv => keyD kv.1) = ks.map PyData.str := by rw [List.map_map]; rfl
    refine ⟨_, rfl, .inr ⟨c, _, rfl, CA.at_, fun kv hkv => ?_, fun H0 e0 => ?_⟩⟩
    · obtain ⟨y, hy, rfl⟩ := List.mem_map.mp hkv
      exact (nm_gd (CO.fo.nm y hy) 0).sm
    have hd := e0 _ _ CA.at_
    have hn : hasNamesK ((kvR ks ad).map fun kv => keyD kv.1) = true := by
      rw [ek, hasNamesK, List.length_map, decide_eq_true CO.fo.lo, decide_eq_true CO.fo.hi, List.all_map, List.all_eq_true.mpr (fun y hy => show (isNameD ∘ PyData.str) y = true from nm_nmB (CO.fo.nm y hy))]
      rfl
    refine ⟨_, rfl, ?_⟩
    rw [hn]
    show if true = true then _ else _
    refine ⟨c, _, hd, trivial, fun od => ?_⟩
    have fz : upd H0 c (.frz od (.dK (kvR ks ad))) c = some (.frz od (.dK (kvR ks ad))) := upd_same
    have fl : ∀ y ∈ ks, upd H0 c (.frz od (.dK (kvR ks ad))) (ad y) = some (.dK (kvF (FF y))) := fun y hy => (upd_ne (CA.ne y hy)).trans (e0 _ _ (CA.files y hy))
    have g0 : ∀ b o, b ≠ c → H0 b = some o → upd H0 c (.frz od (.dK (kvR ks ad))) b = some o := fun b o n e => (upd_ne n).trans e
    generalize upd H0 c (.frz od (.dK (kvR ks ad))) = H1 at fz g0 fl ⊢
    refine ⟨_, rfl, c, od, _, rfl, fz, fun D nD => ?_⟩
    refine lc_it (walk_values (kvs := kvR ks ad)) (fun i H' => H' D = some (.lst ((List.replicate i true).map V.bl)) ∧ Same H1 H') ⟨upd_same, same_new nD⟩ (fun i H' _ h => h.2 _ _ fz) ?_ ?_
    · rintro i v H2 H3 hi ⟨hD, e2⟩ ⟨rfl, k, hk⟩
      rw [lk] at hi
      obtain ⟨z, hz⟩ : ∃ z, ks[i]? = some z := ⟨ks[i], List.getElem?_eq_getElem hi⟩
      have mz := List.mem_of_getElem? hz
      have ev : v = .ref (ad z) := by
        rw [List.getElem?_map, hz] at hk
        exact (congrArg Prod.snd (Option.some.inj hk)).symm
      subst ev
      refine ⟨rfl, _, rfl, ad z, FF z, rfl, e2 _ _ (fl z mz), CO.fi z mz, fun H5 e5 => ?_⟩
      exact ⟨_, e5 _ _ hD, by rw [List.length_map, List.length_replicate]; exact small1000 (by have := CO.fo.hi; omega), by rw [upd_same]; exact congrArg (fun z => some (HO.lst z)) (rep_snoc i), same_up (e2.trans e5) nD⟩
    · rintro H2 ⟨hD, e2⟩
      refine ⟨e2 _ _ fz, ?_⟩
      have Dd : D ≠ c := fun z => by rw [z, fz] at nD; cases nD
      refine ⟨D, _, rfl, sqOf0 ((upd_ne Dd).trans hD), ?_⟩
      rw [all_true]
      refine q _ fun b o e => ?_
      by_cases z : b = c
      · rw [z, upd_same]
        have := e0 _ _ e
        rw [z, hd] at this
        exact this
      · exact (upd_ne z).trans (e2 _ _ (g0 b o z (e0 _ _ e)))
theorem scSf : FnScope ["files", "path"] ["files"] (defScope sSrtF) := ⟨rfl, rfl, rfl, by decide +kernel, rfl, by decide +kernel, by decide +kernel⟩
theorem ok_srtF {f : Addr} {fd : FuncData} (F : Fun K "sorted_files" "sorted_files" sSrtF f fd) (B : Bl mg) : FnOk P w K mg base CX0 1 f fd ["files"] spSrtF := by
  refine F.ok scSf (fun vs H Q E h => ?_) (fun cdv A outer s H vs Q E hr h => ?_)
  · obtain ⟨d, fs, rfl, _⟩ := h
    rfl
  · obtain ⟨d, fs, rfl, hd, nd, le, q⟩ := h
    refine ⟨_, pss_one (ps_ret (pe_dc (own := [("path", 1)]) (tt := tYes) (tk := tVar 1) (tv := tDGet (tVar 0) (tVar 1)) rfl scSf.nd (pi_list (pe_callB (call_sortedD rfl) (by rfl) B.sorted (by decide +kernel) (pa_cons (pv 0) pa_nil))) (blkOk_by (N := ["files", "path"]) (sc := defScope sSrtF) (by decide +kernel))
        (fun _ _ _ _ _ => pg_name (i := 1) scSf.nd rfl (.inl rfl)) (fun _ _ _ _ _ => pts_nil) (fun _ _ _ _ _ => pv 1) (fun _ _ _ _ _ => pe_dget (hu1 hr) (pv 0) (pv 1) (fun _ _ => rfl)))), ?_⟩
    refine ⟨_, rfl, d, kvF fs, fs.map (·.1), rfl, .inl hd, by rw [List.map_map, List.map_map]; rfl, by rw [List.length_map]; omega, fun ks p pm so np => ?_⟩
    have e1 : Same H (upd H p (.lst (ks.map V.str))) := same_new np
    have hp : upd H p (.lst (ks.map V.str)) p = some (.lst (ks.map V.str)) := upd_same
    have knd : ks.Nodup := pm.nodup_iff.mpr nd
    have kle : ks.length ≤ 40 := by rw [pm.length_eq, List.length_map]; exact le
    refine ⟨p, rfl, ⟨_, sqOf0 hp⟩, fun D nD => ?_⟩
    have fD : H D = none := e1.free nD
    generalize upd H p (.lst (ks.map V.str)) = H1 at e1 hp nD ⊢
    refine any_it (walk_list (xs := ks.map V.str)) (fun i H' => H' D = some (.dK (kvS (ks.take i) fun k => .str ((getF fs k).getD Str.empty))) ∧ Same H1 H') ⟨upd_same, same_new nD⟩ (fun i H' _ h => sqOf0 (h.2 _ _ hp)) ?_ ?_
    · rintro i x H2 H3 hi ⟨hD, e2⟩ ⟨rfl, hx⟩
      obtain ⟨k, hk, rfl⟩ := strs_at hx
      have mk : k ∈ fs.map (·.1) := pm.mem_iff.mp (List.mem_of_getElem? hk)
      obtain ⟨v, hv⟩ : ∃ v, getF fs k = some v := by
        cases h : getF fs k with
        | none => exact absurd mk (getF_none.mp h)
        | some v => exact ⟨v, rfl⟩
      have g : DGet H3 d (.str k) (some (.str ((getF fs k).getD Str.empty))) := by
        have e : valV (kvF fs) (Sum.inr k) = some (.str ((getF fs k).getD Str.empty)) := by rw [kvF_val, hv]; rfl
        exact e ▸ DGet.k (k := .inr k) ((e1.trans e2) _ _ hd)
      refine ⟨rfl, _, rfl, _, rfl, _, rfl, d, _, rfl, g, ?_⟩
      refine ⟨_, .inr k, rfl, hD, by rw [List.length_map]; exact small1000 (by rw [List.length_take]; omega), ?_, same_up e2 nD⟩
      show upd H3 D (.dK (putK (kvS (ks.take i) fun k => .str ((getF fs k).getD Str.empty)) (.inr k) (.str ((getF fs k).getD Str.empty)))) D = _
      rw [upd_same, kvS_add (g := fun k => V.str ((getF fs k).getD Str.empty)) (nin_take knd hk), List.take_add_one, hk]
      rfl
    · rintro H2 ⟨hD, e2⟩
      rw [List.length_map, List.take_of_length_le (Nat.le_refl _)] at hD
      refine q D _ H2 ⟨ks, pm, so, rfl⟩ fD ?_ (e1.trans e2)
      rw [kvF_map]
      exact hD
end
end Cv

/-! part K11Q -/
set_option maxRecDepth 100000
set_option maxHeartbeats 4000000
namespace Cv
open PySem PySem.Spec PyProof.Rows L2
/-- the new contents at d -/
structure ResAt (H0 H : Hp) (d : Addr) (ks : List Str) (ad : Str → Addr) (G : Str → Fs) : Prop where
  at_ : H d = some (.dK (kvR ks ad))
  files : ∀ y ∈ ks, H (ad y) = some (.dK (kvF (G y)))
  ne : ∀ y ∈ ks, ad y ≠ d
  fd : H0 d = none
  fr : ∀ y ∈ ks, H0 (ad y) = none
theorem ResAt.same {H0 H H' : Hp} {d : Addr} {ks : List Str} {ad : Str → Addr} {G : Str → Fs} (h : ResAt H0 H d ks ad G) (e : Same H H') : ResAt H0 H' d ks ad G := ⟨e _ _ h.at_, fun y hy => e _ _ (h.files y hy), h.ne, h.fd, h.fr⟩
def spRun (K : PySem.W.Frag) : Sp := fun vs H Q _ => ∃ (j c p : Addr) (ks0 PT : List Str) (ad0 : Str → Addr) (F : Str → Fs) (cs : List Cp), vs = [.ref c, .ref p] ∧ ConAt H c ks0 ad0 F ∧ ConOk ks0 F ∧ PT.length ≤ 40 ∧ AllOk PT ks0 F ∧ Scr ks0 cs ∧ Dx K H j (.ref p) (planD cs) ∧
  ∀ (d : Addr) (ks : List Str) (ad : Str → Addr) (G : Str → Fs) (H' : Hp), ks.Perm ks0 → sortedS ks = true → (∀ y ∈ ks, IsSrt (runF cs F y) (G y)) → ResAt H H' d ks ad G → Same H H' → Q (.ref d) H'
/-- between two copies -/
structure NowAt (H0 H : Hp) (d : Addr) (ks : List Str) (ad : Str → Addr) (F : Str → Fs) : Prop where
  at_ : H d = some (.dK (kvR ks ad))
  files : ∀ y ∈ ks, H (ad y) = some (.dK (kvF (F y)))
  ne : ∀ y ∈ ks, ad y ≠ d
  fd : H0 d = none
theorem NowAt.same {H0 H H' : Hp} {d : Addr} {ks : List Str} {ad : Str → Addr} {F : Str → Fs} (h : NowAt H0 H d ks ad F) (e : Same H H') : NowAt H0 H' d ks ad F := ⟨e _ _ h.at_, fun y hy => e _ _ (h.files y hy), h.ne, h.fd⟩
theorem NowAt.put {H0 H : Hp} {d r : Addr} {ks : List Str} {ad : Str → Addr} {F : Str → Fs} {t : Str} {v : Fs} (h : NowAt H0 H d ks ad F) (ht : t ∈ ks) (hr : H r = some (.dK (kvF v))) (rd : r ≠ d) :
    NowAt H0 (upd H d (.dK (putK (kvR ks ad) (Sum.inr t) (V.ref r)))) d ks (upA ad t r) (upF F t v) := by
  rw [kv_put ht]
  refine ⟨upd_same, fun y hy => ?_, fun y hy => ?_, h.fd⟩
  · show upd H d _ (if y = t then r else ad y) = some (.dK (kvF (if y = t then v else F y)))
    by_cases e : y = t
    · rw [if_pos e, if_pos e, upd_ne rd]; exact hr
    · rw [if_neg e, if_neg e, upd_ne (h.ne y hy)]; exact h.files y hy
  · show (if y = t then r else ad y) ≠ d
    by_cases e : y = t
    · rw [if_pos e]; exact rd
    · rw [if_neg e]; exact h.ne y hy
section
variable {P : Program} {w : World} {K : PySem.W.Frag} {mg : Str → Option Value} {base : Heap}
abbrev NRu : List Str := ["contents", "copies", "now", "word", "source", "target", "name"]
def spChkCt : Sp := fun vs H Q _ => ∃ (c : Addr) (ks : List Str) (ad : Str → Addr) (F : Str → Fs), vs = [.ref c] ∧ ConAt H c ks ad F ∧ ConOk ks F ∧ ∀ M, Same H M → Q .non M
theorem scCkc : FnScope ["contents"] ["contents"] (defScope sCheckContents) := ⟨rfl, rfl, rfl, by decide +kernel, rfl, by decide +kernel, by decide +kernel⟩
theorem ok_chkCt {f : Addr} {fd : FuncData} (F : Fun K "check_contents" "check_contents" sCheckContents f fd) (DC : Has P w K mg base CX0 3 "are_contents" ["value"] spCont) : FnOk P w K mg base CX0 4 f fd ["contents"] spChkCt := by
  refine F.ok scCkc (fun vs H Q E h => ?_) (fun cdv A outer s H vs Q E hr h => ?_)
  · obtain ⟨c, ks, ad, FF, rfl, _⟩ := h
    rfl
  · obtain ⟨c, ks, ad, FF, rfl, CA, CO, q⟩ := h
    refine ⟨_, pss_one (ps_if (pt_not (pt_val (pe_has DC hr pass0 (pa_cons (pv 0) pa_nil)))) (pss_one ps_dead) pss_nil), ?_⟩
    exact ⟨_, rfl, c, ks, ad, FF, rfl, CA, CO, fun H2 e => ⟨_, rfl, q H2 e⟩⟩
theorem scRu : FnScope NRu ["contents", "copies"] (defScope sRun) := ⟨rfl, rfl, rfl, by decide +kernel, rfl, by decide +kernel, by decide +kernel⟩
theorem ok_run {f : Addr} {fd : FuncData} (F : Fun K "run" "run" sRun f fd) (B : Bl mg) (DC : Has P w K mg base CX0 4 "check_contents" ["contents"] spChkCt) (DS : Has P w K mg base CX0 4 "check_script" ["copies", "folders"] (spChkS K))
    (DF : Has P w K mg base CX0 1 "sorted_files" ["files"] spSrtF) : FnOk P w K mg base CX0 5 f fd ["contents", "copies"] (spRun K) := by
  refine F.ok scRu (fun vs H Q E h => ?_) (fun cdv A outer s H vs Q E hr h => ?_)
  · obtain ⟨j, c, p, ks0, PT, ad0, F, cs, rfl, _⟩ := h
    rfl
  · obtain ⟨j, c, p, ks0, PT, ad0, FF, cs, rfl, CA, CO, p40, AO, SC, Dp, q⟩ := h
    refine ⟨_, pss_cons (ps_expr (pe_has DC hr pass0 (pa_cons (pv 0) pa_nil)))
      (pss_cons (ps_expr (pe_has DS hr pass0 (pa_cons (pv 1) (pa_cons (pe_callTy (call_tupD rfl) (by rfl) B.tuple (by decide +kernel) (pa_cons (pv 0) pa_nil)) pa_nil))))
      (pss_cons (ps_set (i := 2) scRu.nd rfl (.inr rfl) (pe_dc (own := [("name", 6)]) (tt := tYes) (tk := tVar 6) (tv := tDGet (tVar 0) (tVar 6)) rfl scRu.nd (pi_list (pe_callB (call_sortedD rfl) (by rfl) B.sorted (by decide +kernel) (pa_cons (pv 0) pa_nil))) (blkOk_by (N := NRu) (sc := defScope sRun) (by decide +kernel))
          (fun _ _ _ _ _ => pg_name (i := 6) scRu.nd rfl (.inl rfl)) (fun _ _ _ _ _ => pts_nil) (fun _ _ _ _ _ => pv 6) (fun _ _ _ _ _ => pe_dget (hu1 hr) (pv 0) (pv 6) (fun _ _ => rfl))))
      (pss_cons (ps_for PassesOwn.never rfl (pi_tup (pv 1)) (pg_tup rfl (pgs_cons (pg_name (i := 3) scRu.nd rfl (.inl rfl)) (pgs_cons (pg_name (i := 4) scRu.nd rfl (.inl rfl)) (pgs_cons (pg_name (i := 5) scRu.nd rfl (.inl rfl)) pgs_nil))))
        (pss_one (ps_if (pt_cmpR op_eq (pv 3) pe_str (nomark _))
          (pss_one (ps_dput (hu1 hr) (pv 2) (pv 5) (pe_star2 (pe_dget (hu1 hr) (pv 2) (pv 5) (fun _ _ => rfl)) (pe_dget (hu1 hr) (pv 2) (pv 4) (fun _ _ => rfl))) rfl))
          (pss_one (ps_dput (hu1 hr) (pv 2) (pv 5) (pe_star2 (pe_dget (hu1 hr) (pv 2) (pv 4) (fun _ _ => rfl)) (pe_dget (hu1 hr) (pv 2) (pv 5) (fun _ _ => rfl))) rfl)))))
      (pss_one (ps_ret (pe_lock (pe_dc (own := [("name", 6)]) (tt := tYes) (tk := tVar 6) (tv := tCl spSrtF E0 (tCons (tDGet (tVar 2) (tVar 6)) tNil)) rfl scRu.nd (pi_keys (pv 2)) (blkOk_by (N := NRu) (sc := defScope sRun) (by decide +kernel))
          (fun _ _ _ _ _ => pg_name (i := 6) scRu.nd rfl (.inl rfl)) (fun _ _ _ _ _ => pts_nil) (fun _ _ _ _ _ => pv 6) (fun _ _ _ _ _ => pe_has DF hr pass0 (pa_cons (pe_dget (hu1 hr) (pv 2) (pv 6) (fun _ _ => rfl)) pa_nil))))))))), ?_⟩
    obtain ⟨paj, xs, sP, tP⟩ := tup_inv Dp
    have el := tP.len
    rw [List.length_map] at el
    have k20 := CO.fo.hi
    -- the checks
    refine ⟨_, rfl, c, ks0, ad0, FF, rfl, CA, CO, fun H1 e1 => ?_⟩
    have CA1 := CA.same e1
    refine ⟨_, rfl, _, rfl, c, kvR ks0 ad0, rfl, .inl CA1.at_, fun a na => ?_⟩
    have ha : upd H1 a (.tup ((kvR ks0 ad0).map fun kv => kV kv.1)) a = some (.tup (ks0.map V.str)) := by rw [upd_same, List.map_map]; rfl
    have e2 : Same H1 (upd H1 a (.tup ((kvR ks0 ad0).map fun kv => kV kv.1))) := same_new na
    show tNil _ (upd H1 a (.tup ((kvR ks0 ad0).map fun kv => kV kv.1))) _
    generalize upd H1 a (.tup ((kvR ks0 ad0).map fun kv => kV kv.1)) = H2 at ha e2 ⊢
    have e02 := e1.trans e2
    refine ⟨j, p, a, cs, ks0, rfl, Dp.same e02, SC.le, SC.ok, CO.fo.nm, stOf0 ha, fun H3 e3 => ?_⟩
    have e03 := e02.trans e3
    have CA3 := CA.same e03
    -- now
    refine ⟨_, rfl, c, kvR ks0 ad0, ks0, rfl, .inl CA3.at_, by rw [List.map_map]; rfl, by omega, fun ks sp pm so ns => ?_⟩
    have e4 : Same H3 (upd H3 sp (.lst (ks.map V.str))) := same_new ns
    have hsp : upd H3 sp (.lst (ks.map V.str)) sp = some (.lst (ks.map V.str)) := upd_same
    have knd : ks.Nodup := pm.nodup_iff.mpr CO.fo.nd
    have kle : ks.length ≤ 20 := by rw [pm.length_eq]; exact CO.fo.hi
    refine ⟨sp, rfl, ⟨_, sqOf0 hsp⟩, fun d nd => ?_⟩
    have e04 := e03.trans e4
    have fd : H d = none := e04.free nd
    generalize upd H3 sp (.lst (ks.map V.str)) = H4 at e04 hsp nd ⊢
    have CA4 := CA.same e04
    refine any_it (walk_list (xs := ks.map V.str)) (fun i H' => H' d = some (.dK (kvR (ks.take i) ad0)) ∧ Same H4 H') ⟨upd_same, same_new nd⟩ (fun i H' _ h => sqOf0 (h.2 _ _ hsp)) ?_ ?_
    · rintro i x H5 H6 hi ⟨hD, e5⟩ ⟨rfl, hx⟩
      obtain ⟨y, hy, rfl⟩ := strs_at hx
      have my : y ∈ ks0 := pm.mem_iff.mp (List.mem_of_getElem? hy)
      have g : DGet H6 c (.str y) (some (.ref (ad0 y))) := kv_val (ad := ad0) my ▸ DGet.k (k := .inr y) (CA4.same e5).at_
      refine ⟨rfl, _, rfl, _, rfl, _, rfl, c, _, rfl, g, ?_⟩
      refine ⟨_, .inr y, rfl, hD, by rw [List.length_map]; exact small1000 (by rw [List.length_take]; omega), ?_, same_up e5 nd⟩
      show upd H6 d (.dK (putK (kvS (ks.take i) fun y => .ref (ad0 y)) (.inr y) (.ref (ad0 y)))) d = _
      rw [upd_same, kvS_add (g := fun y => V.ref (ad0 y)) (nin_take knd hy), List.take_add_one, hy]
      rfl
    rintro H5 ⟨hD, e5⟩
    rw [List.length_map, List.take_of_length_le (Nat.le_refl _)] at hD
    have e05 := e04.trans e5
    have CA5 := CA.same e05
    have nc : ∀ y ∈ ks, ad0 y ≠ d := fun y hy z => by have := CA4.files y (pm.mem_iff.mp hy); rw [z, nd] at this; cases this
    -- copy by copy
    refine ⟨_, rfl, p, rfl, ⟨xs, same_t e05 sP⟩, ?_⟩
    refine for_tup (xs := xs) (fun i σ H' => ∃ x3 x4 x5 ad, σ = [some (.ref c), some (.ref p), some (.ref d), x3, x4, x5, none] ∧ NowAt H H' d ks ad (runF (cs.take i) FF) ∧ Same H H') ⟨none, none, none, ad0, rfl, ⟨hD, fun y hy => CA5.files y (pm.mem_iff.mp hy), nc, fd⟩, e05⟩
      (fun i σ H' _ h => by obtain ⟨_, _, _, _, _, _, h⟩ := h; exact same_t h sP) ?_ ?_
    · rintro i x σ H6 hx ⟨x3, x4, x5, ad, rfl, NA, e6⟩
      obtain ⟨dd, hd, Dd⟩ := tP.get hx
      rw [List.getElem?_map] at hd
      obtain ⟨cp, hcc, rfl⟩ : ∃ c, cs[i]? = some c ∧ cpD c = dd := by
        cases h : cs[i]? with
        | none => rw [h] at hd; cases hd
        | some c => rw [h] at hd; cases hd; exact ⟨c, rfl, rfl⟩
      have ck := SC.ok cp (List.mem_of_getElem? hcc)
      have ao := allok_runF (cs := cs.take i) AO fun c hc => SC.ok c (List.mem_of_mem_take hc)
      have oa := ao _ ck.a
      have ob := ao _ ck.b
      have ma : cp.2.1 ∈ ks := pm.mem_iff.mpr ck.a
      have mb : cp.2.2 ∈ ks := pm.mem_iff.mpr ck.b
      have la : (kvF (runF (cs.take i) FF cp.2.1)).length ≤ 1000 := by rw [List.length_map]; have := oa.len; omega
      have lb : (kvF (runF (cs.take i) FF cp.2.2)).length ≤ 1000 := by rw [List.length_map]; have := ob.len; omega
      obtain ⟨b, rfl, bj, sb⟩ := cp_inv (Dd.same e6)
      have kl : (kvR ks ad).length < sizeLine := by rw [List.length_map]; exact small1000 (by omega)
      have rn := runF_take (F := FF) hcc
      generalize runF (cs.take i) FF = R at NA oa ob la lb rn
      refine ⟨b, cpV cp, rfl, sb, rfl, _, _, rfl, _, _, rfl, _, _, rfl, rfl, ?_⟩
      -- the joined files, u behind v
      have key : ∀ {u v : Str}, u ∈ ks → v ∈ ks → FOk PT (R u) → FOk PT (R v) → (kvF (R u)).length ≤ 1000 → (kvF (R v)).length ≤ 1000 → ∀ r, H6 r = none →
          ∃ H7, H7 = upd (upd (upd H6 r (.dK [])) r (.dK (mergeK [] (kvF (R u))))) r (.dK (mergeK (mergeK [] (kvF (R u))) (kvF (R v)))) ∧ Same H6 H7 ∧ H7 r = some (.dK (kvF (jn (R u) (R v)))) := by
        intro u v hu hv ou ov lu lv r nr
        refine ⟨_, rfl, same_up (same_up (same_new nr) nr) nr, ?_⟩
        have e0 : mergeK [] (kvF (R u)) = kvF (R u) := by
          have h := kvF_merge (a := []) (b := R u) (fok_nil PT) ou.sub
          rw [jn_nil ou.nd] at h
          exact h
        rw [upd_same, e0, kvF_merge ou ov.sub]
      refine ⟨_, rfl, rfl, _, rfl, ite2 (fun k => ?_) (fun k => ?_)⟩
      · have ew : cp.1 = Str.ofString "over" := by have := of_decide_eq_true k; injection this
        refine fun r nr => ?_
        have rd : r ≠ d := (ne_of_none NA.at_ nr).symm
        have n1 : ad cp.2.2 ≠ r := ne_of_none (NA.files _ mb) nr
        have n2 : ad cp.2.1 ≠ r := ne_of_none (NA.files _ ma) nr
        have N1 := NA.same (same_new (o := .dK []) nr)
        refine ⟨_, rfl, _, rfl, d, _, rfl, kv_val (ad := ad) mb ▸ DGet.k (k := .inr cp.2.2) N1.at_, ad cp.2.2, kvF (R cp.2.2), rfl, n1, N1.files _ mb, upd_same, lb, ?_⟩
        have N2 : NowAt H (upd (upd H6 r (.dK [])) r (.dK (mergeK [] (kvF (R cp.2.2))))) d ks ad R := NA.same (same_up (same_new nr) nr)
        refine ⟨_, rfl, _, rfl, d, _, rfl, kv_val (ad := ad) ma ▸ DGet.k (k := .inr cp.2.1) N2.at_, ad cp.2.1, kvF (R cp.2.1), rfl, n2, N2.files _ ma, upd_same, la, ?_⟩
        obtain ⟨H7, e7, s7, h7⟩ := key mb ma ob oa lb la r nr
        rw [← e7]
        have N7 := NA.same s7
        refine ⟨_, rfl, _, rfl, d, _, rfl, DPut.k (k := .inr cp.2.2) N7.at_ kl, _, _, _, upA ad cp.2.2 r, rfl, ?_, same_put (e6.trans s7) NA.fd⟩
        have := N7.put mb h7 rd
        rw [rn]
        unfold stepF
        rw [if_pos ew]
        exact this
      · have ew : ¬ cp.1 = Str.ofString "over" := fun z => k (decide_eq_true (congrArg V.str z))
        refine fun r nr => ?_
        have rd : r ≠ d := (ne_of_none NA.at_ nr).symm
        have n1 : ad cp.2.2 ≠ r := ne_of_none (NA.files _ mb) nr
        have n2 : ad cp.2.1 ≠ r := ne_of_none (NA.files _ ma) nr
        have N1 := NA.same (same_new (o := .dK []) nr)
        refine ⟨_, rfl, _, rfl, d, _, rfl, kv_val (ad := ad) ma ▸ DGet.k (k := .inr cp.2.1) N1.at_, ad cp.2.1, kvF (R cp.2.1), rfl, n2, N1.files _ ma, upd_same, la, ?_⟩
        have N2 : NowAt H (upd (upd H6 r (.dK [])) r (.dK (mergeK [] (kvF (R cp.2.1))))) d ks ad R := NA.same (same_up (same_new nr) nr)
        refine ⟨_, rfl, _, rfl, d, _, rfl, kv_val (ad := ad) mb ▸ DGet.k (k := .inr cp.2.2) N2.at_, ad cp.2.2, kvF (R cp.2.2), rfl, n1, N2.files _ mb, upd_same, lb, ?_⟩
        obtain ⟨H7, e7, s7, h7⟩ := key ma mb oa ob la lb r nr
        rw [← e7]
        have N7 := NA.same s7
        refine ⟨_, rfl, _, rfl, d, _, rfl, DPut.k (k := .inr cp.2.2) N7.at_ kl, _, _, _, upA ad cp.2.2 r, rfl, ?_, same_put (e6.trans s7) NA.fd⟩
        have := N7.put mb h7 rd
        rw [rn]
        unfold stepF
        rw [if_neg ew]
        exact this
    rintro σ H6 ⟨x3, x4, x5, ad, rfl, NA, e6⟩
    rw [List.take_of_length_le (by omega)] at NA
    have ao := allok_runF (cs := cs) AO SC.ok
    generalize runF cs FF = R at NA ao q ⊢
    -- with ascending paths
    refine ⟨d, _, NA.at_, trivial, fun od => ?_⟩
    have fz : upd H6 d (.frz od (.dK (kvR ks ad))) d = some (.frz od (.dK (kvR ks ad))) := upd_same
    have fl : ∀ y ∈ ks, upd H6 d (.frz od (.dK (kvR ks ad))) (ad y) = some (.dK (kvF (R y))) := fun y hy => (upd_ne (NA.ne y hy)).trans (NA.files y hy)
    have e7 : Same H (upd H6 d (.frz od (.dK (kvR ks ad)))) := same_up e6 NA.fd
    generalize upd H6 d (.frz od (.dK (kvR ks ad))) = H7 at fz fl e7 ⊢
    refine ⟨_, rfl, d, od, rfl, .inl ⟨_, fz, fun D nD => ?_⟩⟩
    have fD : H D = none := e7.free nD
    have Dd : D ≠ d := fun z => by rw [z, fz] at nD; cases nD
    refine any_it (walk_keys (kvs := kvR ks ad)) (fun i H' => ∃ (ad2 : Str → Addr) (G : Str → Fs), H' D = some (.dK (kvR (ks.take i) ad2)) ∧ (∀ y ∈ ks.take i, H' (ad2 y) = some (.dK (kvF (G y))) ∧ IsSrt (R y) (G y) ∧ H (ad2 y) = none ∧ ad2 y ≠ D ∧ ad2 y ≠ d) ∧ Same H7 H') ⟨fun _ => 0, fun _ => [], upd_same, (fun y hy => nomatch hy), same_new nD⟩ (fun i H' _ h => by obtain ⟨_, _, _, _, h⟩ := h; exact h _ _ fz) ?_ ?_
    · rintro i x H8 H9 hi ⟨ad2, G, hD, hG, e8⟩ ⟨rfl, kk, vv, hkv, rfl⟩
      rw [List.getElem?_map] at hkv
      obtain ⟨y, hy, rfl⟩ : ∃ y, ks[i]? = some y ∧ kk = .inr y := by
        cases h : ks[i]? with
        | none => rw [h] at hkv; cases hkv
        | some y => rw [h] at hkv; cases hkv; exact ⟨y, rfl, rfl⟩
      have my := List.mem_of_getElem? hy
      have oy := ao y (pm.mem_iff.mp my)
      have g : DGet H9 d (.str y) (some (.ref (ad y))) := kv_val (ad := ad) my ▸ (.inl ⟨kvR ks ad, .inr y, .inr ⟨od, e8 _ _ fz⟩, rfl, rfl⟩ : DGet H9 d (kV (.inr y)) (valV (kvR ks ad) (.inr y)))
      refine ⟨rfl, _, rfl, _, rfl, _, rfl, d, _, rfl, g, ad y, R y, rfl, e8 _ _ (fl y my), oy.nd, by have := oy.len; omega, fun r gs H10 hs fr hr e10 => ?_⟩
      have hD10 := e10 _ _ hD
      have rD : r ≠ D := (ne_of_none hD fr).symm
      have rd : r ≠ d := (ne_of_none (e8 _ _ fz) fr).symm
      have ny := nin_take knd hy
      refine ⟨_, .inr y, rfl, hD10, by rw [List.length_map]; exact small1000 (by rw [List.length_take]; omega), upA ad2 y r, (fun z => if z = y then gs else G z), ?_, fun z hz => ?_, same_up (e8.trans e10) nD⟩
      · show upd H10 D (.dK (putK (kvR (ks.take i) ad2) (.inr y) (.ref r))) D = _
        rw [upd_same, kv_add ny, List.take_add_one, hy]
        rfl
      · have hz : z ∈ ks.take i ∨ z = y := by
          rw [List.take_add_one, hy] at hz
          rcases List.mem_append.mp hz with m | m
          · exact .inl m
          · exact .inr (by simpa using m)
        show upd H10 D _ (if z = y then r else ad2 z) = some (.dK (kvF (if z = y then gs else G z))) ∧ IsSrt (R z) (if z = y then gs else G z) ∧ H (if z = y then r else ad2 z) = none ∧ (if z = y then r else ad2 z) ≠ D ∧ (if z = y then r else ad2 z) ≠ d
        by_cases e : z = y
        · rw [if_pos e, if_pos e, upd_ne rD, e]
          exact ⟨hr, hs, (e7.trans e8).free fr, rD, rd⟩
        · obtain ⟨h1, h2, h3, h4, h5⟩ := hG z (hz.resolve_right e)
          rw [if_neg e, if_neg e, upd_ne h4]
          exact ⟨e10 _ _ h1, h2, h3, h4, h5⟩
    · rintro H8 ⟨ad2, G, hD, hG, e8⟩
      rw [List.length_map, List.take_of_length_le (Nat.le_refl _)] at hD
      rw [List.length_map, List.take_of_length_le (Nat.le_refl _)] at hG
      refine ⟨e8 _ _ fz, ?_⟩
      exact q D ks ad2 G _ pm so (fun y hy => (hG y hy).2.1) ⟨(upd_ne Dd).trans hD, fun y hy => (upd_ne (hG y hy).2.2.2.2).trans (hG y hy).1, fun y hy => (hG y hy).2.2.2.1, fD, fun y hy => (hG y hy).2.2.1⟩ (same_up (e7.trans e8) NA.fd)
end
end Cv

/-! part K11D -/
set_option maxRecDepth 100000
set_option maxHeartbeats 4000000
namespace Cv
open PySem PySem.Spec PyProof.Rows L2
section
variable {P : Program} {w : World} {K : PySem.W.Frag} {mg : Str → Option Value} {base : Heap}
theorem scN : FnScope ["jar", "many", "left", "found", "turn", "size", "front", "step"] ["jar", "many"] (defScope sNames) := ⟨rfl, rfl, rfl, by decide +kernel, rfl, by decide +kernel, by decide +kernel⟩
/-- between two turns -/
structure NmSt (H0 H : Hp) (j L Fd : Addr) (n i : Nat) (cs : List Nat) (fs : List Str) (l : List V) : Prop where
  ej : Eff j H0 H
  hj : H j = some (.lst l)
  jl : JarL l (n + 9 * i)
  hL : H L = some (.lst (cs.map fun c => V.str (sg c)))
  hF : H Fd = some (.lst (fs.map V.str))
  nL : L ≠ j
  nF : Fd ≠ j
  nLF : L ≠ Fd
  fL : H0 L = none
  fF : H0 Fd = none
  cn : cs.Nodup
  cb : ∀ c ∈ cs, 97 ≤ c ∧ c ≤ 116
  cl : cs.length + i = 20
  fl : fs.length = i
  fn : fs.Nodup
  fb : ∀ y ∈ fs, IsNm y ∧ ∃ c, y.cps.toList.getLast? = some c ∧ c ∉ cs ∧ c ≤ 116
theorem sg0 : (signs (Str.ofString "abcdefghijklmnopqrst")) = ((List.range 20).map fun i => 97 + i).map sg := by decide +kernel
theorem ok_names {f : Addr} {fd : FuncData} (F : Fun K "_law_names" "_law_names" sNames f fd) (B : Bl mg) (DD : Has P w K mg base CX0 1 "_law_dip" ["jar", "many"] spDip) :
    FnOk P w K mg base CX0 2 f fd ["jar", "many"] spNames := by
  refine F.ok scN (fun vs H Q E h => ?_) (fun cdv A outer s H vs Q E hr h => ?_)
  · obtain ⟨j, l, m, n, rfl, _⟩ := h
    rfl
  · obtain ⟨j, l, m, n, rfl, hj, jl, hn, hm, hm2, q⟩ := h
    refine ⟨_, pss_cons (ps_par (i := 2) (j := 3) rfl scN.nd rfl rfl (by decide) rfl rfl (pa_cons (pe_callTy (call_list_str rfl) (by rfl) B.list (by decide +kernel) (pa_cons pe_str pa_nil)) (pa_cons (pe_lst pa_nil) pa_nil)) rfl)
      (pss_cons (ps_for PassesOwn.never rfl (pi_range1 (by rfl) B.range (pa_cons (pv 1) pa_nil)) (pg_name (i := 4) scN.nd rfl (.inl rfl))
        (pss_cons (ps_set (i := 5) scN.nd rfl (.inl rfl) (pe_ix ix_list (pe_lst (pa_cons pe_int (pa_cons pe_int (pa_cons pe_int (pa_cons pe_int pa_nil))))) (pe_has DD hr pass0 (pa_cons (pv 0) (pa_cons pe_int pa_nil))) (fun _ _ => rfl)))
        (pss_cons (ps_set (i := 6) scN.nd rfl (.inl rfl) (pe_join pe_str (pe_lc (own := [("step", 7)]) (tt := tYes) rfl scN.nd (pi_range1 (by rfl) B.range (pa_cons (pv 5) pa_nil)) (blkOk_by (N := ["jar", "many", "left", "found", "turn", "size", "front", "step"]) (sc := defScope sNames) (by decide +kernel))
            (fun _ _ _ _ _ => pg_name (i := 7) scN.nd rfl (.inl rfl)) (fun _ _ _ _ _ => pts_nil) (fun _ _ _ _ _ => pe_ix ix_str pe_str (pe_has DD hr pass0 (pa_cons (pv 0) (pa_cons pe_int pa_nil))) (fun _ _ => rfl)))))
        (pss_one (ps_expr (pe_bm PySem.F.plainAttrs_list PySem.F.slot_list_append PySem.F.type_list_append mt_append (pv 3)
          (pa_cons (pe_op op_add_str (pv 6) (pe_bm PySem.F.plainAttrs_list PySem.F.slot_list_pop PySem.F.type_list_pop mt_popAt (pv 2)
            (pa_cons (pe_has DD hr pass0 (pa_cons (pv 0) (pa_cons (pe_callB call_len_seq (by rfl) B.len PySem.boot_len (pa_cons (pv 2) pa_nil)) pa_nil))) pa_nil))) pa_nil)))))))
      (pss_one (ps_ret (pe_callTy call_tuple_of (by rfl) B.tuple (by decide +kernel) (pa_cons (pv 3) pa_nil))))), ?_⟩
    -- left, found
    refine ⟨_, rfl, by decide +kernel, fun L nL => ⟨Nat.zero_le _, fun Fd nF => ⟨_, _, rfl, ?_⟩⟩⟩
    have nL0 : L ≠ j := (ne_of_none hj nL).symm
    have hj1 : upd H L (.lst ((signs (Str.ofString "abcdefghijklmnopqrst")).map V.str)) j = some (.lst l) := (upd_ne nL0.symm).trans hj
    have nF0 : Fd ≠ j := (ne_of_none hj1 nF).symm
    have nLF : L ≠ Fd := ne_of_none upd_same nF
    have fF : H Fd = none := (upd_ne (H := H) nLF.symm).symm.trans nF
    refine ⟨_, rfl, m, rfl, by omega, by omega, ?_⟩
    refine for_range (lo := 0) (n := m.toNat) (fun i σ H' => ∃ x4 x5 x6 x7 cs fs l', σ = [some (.ref j), some (.int m), some (.ref L), some (.ref Fd), x4, x5, x6, x7] ∧ NmSt H H' j L Fd n i cs fs l') ?_ ?_ ?_
    · refine ⟨none, none, none, none, (List.range 20).map fun i => 97 + i, [], l, rfl, ?_⟩
      refine ⟨((Eff.refl j H).new nL).new fF, (upd_ne nF0.symm).trans hj1, by simpa using jl, ?_, upd_same, nL0, nF0, nLF, nL, fF, by decide, by decide, by decide, rfl, List.nodup_nil, fun y hy => nomatch hy⟩
      rw [upd_ne nLF, upd_same, sg0, List.map_map]
      rfl
    · rintro i σ H1 hi ⟨x4, x5, x6, x7, cs, fs, l1, rfl, S⟩
      have him : (i : Int) < 20 := by omega
      -- size
      refine ⟨by decide, fun p0 np0 => ?_⟩
      have p0j : p0 ≠ j := (ne_of_none S.hj np0).symm
      refine ⟨_, rfl, j, l1, 4, n + 9 * i, rfl, (upd_ne p0j.symm).trans S.hj, S.jl, by omega, by decide, by decide, fun r l2 r0 r1 jl2 => ?_⟩
      obtain ⟨sz, hsz, sz0, sz1⟩ := pick4 r0 r1
      refine ⟨p0, _, r, _, rfl, rfl, sqOf ((upd_ne p0j).trans upd_same), hsz, ?_⟩
      generalize hH2 : upd (upd H1 p0 (.lst [V.int 0, V.int 0, V.int 1, V.int 7])) j (.lst l2) = H2
      have e2 : Eff j H1 H2 := by rw [← hH2]; exact ((Eff.refl j H1).new np0).atj
      have hj2 : H2 j = some (.lst l2) := by rw [← hH2]; exact upd_same
      -- front
      refine ⟨⟨_, rfl⟩, _, rfl, sz, rfl, by omega, by omega, fun D nD => ?_⟩
      have nDj : D ≠ j := (ne_of_none hj2 nD).symm
      refine lc_it walk_range (fun i' H' => ∃ (ds : List Nat) (l' : List V), H' D = some (.lst (ds.map fun c => V.str (sg c))) ∧ ds.length = i' ∧ (∀ c ∈ ds, 97 ≤ c ∧ c ≤ 122) ∧ H' j = some (.lst l') ∧ JarL l' (n + 9 * i + 1 + i') ∧ Eff j H2 H')
        ⟨[], l2, upd_same, rfl, (fun _ q => nomatch q), (upd_ne nDj.symm).trans hj2, jl2, (Eff.refl j H2).new nD⟩ (fun _ _ _ _ => trivial) ?_ ?_
      · rintro i' x H3 H4 hi' ⟨ds, l3, hD, dl, db, hj3, jl3, e3⟩ ⟨rfl, rfl⟩
        refine ⟨rfl, ?_⟩
        refine ⟨_, rfl, j, l3, 3, n + 9 * i + 1 + i', rfl, hj3, jl3, by omega, by decide, by decide, fun r2 l4 r20 r21 jl4 => ?_⟩
        obtain ⟨c, hc, c0, c1⟩ := pick3 r20 r21
        refine ⟨_, r2, c, rfl, rfl, by decide +kernel, hc, ds.map (fun c => V.str (sg c)), (upd_ne nDj).trans hD, ?_, ?_⟩
        · rw [List.length_map, dl]
          exact small1000 (by omega)
        · refine ⟨ds ++ [c], l4, ?_, by simp [dl], ?_, (upd_ne nDj.symm).trans upd_same, jl4, ?_⟩
          · rw [upd_same, List.map_append]
            rfl
          · intro d hd
            rcases List.mem_append.mp hd with h | h
            · exact db d h
            · have : d = c := by simpa using h
              subst this
              exact ⟨c0, c1⟩
          · exact (e3.atj).new nD
      · rintro H3 ⟨ds, l3, hD, dl, db, hj3, jl3, e3⟩
        have e13 := e2.trans e3
        have hL3 := e13 L _ S.nL S.hL
        have hF3 := e13 Fd _ S.nF S.hF
        refine ⟨_, D, ds.map sg, rfl, rfl, .inl (sqOf (by rw [hD, List.map_map]; rfl)), ?_, ?_⟩
        · have : ((ds.map sg).map (·.length)).sum = ds.length := by
            rw [List.map_map]
            have : ∀ l : List Nat, (l.map ((·.length) ∘ sg)).sum = l.length := fun l => by
              induction l with
              | nil => rfl
              | cons a l ih => rw [List.map_cons, List.sum_cons, ih, List.length_cons]; show 1 + _ = _; omega
            exact this ds
          rw [this, show (Str.ofString "").length = 0 by decide +kernel]
          omega
        · obtain ⟨gl, gc⟩ := glue_ok db
          have gl7 : (Txt.join (Str.ofString "") (ds.map sg)).length ≤ 7 := by omega
          generalize Txt.join (Str.ofString "") (ds.map sg) = fr at gl gc gl7
          -- found.append(front + left.pop(..))
          refine ⟨_, rfl, .inl ⟨rfl, _, sqOf hF3⟩, _, rfl, _, rfl, .inl ⟨rfl, _, sqOf hL3⟩, _, rfl, _, rfl, L, _, rfl, .inl (sqOf hL3), ?_⟩
          have hlc : 0 < cs.length := by have := S.cl; omega
          refine ⟨j, l3, _, n + 9 * i + 1 + sz.toNat, rfl, hj3, jl3.mono (by omega), by omega, by rw [List.length_map]; omega, by rw [List.length_map]; have := S.cl; omega, fun r3 l4 r30 r31 jl4 => ?_⟩
          rw [List.length_map] at r31
          obtain ⟨k, c, rfl, hk, _⟩ := atI_in r30 r31
          have hkl : k < cs.length := by omega
          have cl := S.cl
          refine ⟨L, _, _, k, V.str (sg c), rfl, rfl, (upd_ne S.nL).trans hL3, by omega, by omega, by rw [List.length_map]; exact seqIx_nat hkl, by rw [List.getElem?_map, hk]; rfl, ?_⟩
          rw [erase_map]
          have cm : c ∈ cs := List.mem_of_getElem? hk
          obtain ⟨nm, nl⟩ := nm_of gl7 gc ⟨(S.cb c cm).1, by have := (S.cb c cm).2; omega⟩
          refine ⟨fr, sg c, rfl, rfl, ?_, Fd, fs.map V.str, _, rfl, rfl, ?_, ?_, ?_⟩
          · show fr.length + 1 ≤ sizeLine
            exact Nat.le_trans (show fr.length + 1 ≤ 64 by omega) (by decide)
          · rw [upd_ne S.nLF.symm, upd_ne S.nF]
            exact hF3
          · rw [List.length_map, S.fl]
            exact small1000 (by omega)
          · refine ⟨_, _, _, _, cs.eraseIdx k, fs ++ [fr ++ sg c], l4, rfl, ?_⟩
            refine ⟨?_, ?_, jl4.mono (by omega), ?_, ?_, S.nL, S.nF, S.nLF, S.fL, S.fF, S.cn.sublist (List.eraseIdx_sublist _ _), fun d hd => S.cb d (List.mem_of_mem_eraseIdx hd), ?_, ?_, ?_, ?_⟩
            · exact (((S.ej.trans e13).atj).new S.fL).new S.fF
            · rw [upd_ne S.nF.symm, upd_ne S.nL.symm, upd_same]
            · rw [upd_ne S.nLF, upd_same]
            · rw [upd_same, List.map_append]
              rfl
            · have := erase_len cs k hkl
              omega
            · rw [List.length_append, S.fl]
              rfl
            · rw [List.nodup_append]
              refine ⟨S.fn, by simp, fun a ha b hb e => ?_⟩
              have hb' : b = fr ++ sg c := by simpa using hb
              obtain ⟨_, d, hd, hn, _⟩ := S.fb a ha
              rw [e, hb', nl] at hd
              have : c = d := Option.some.inj hd
              exact hn (this ▸ cm)
            · intro y hy
              rcases List.mem_append.mp hy with h | h
              · obtain ⟨h1, d, hd, hn, h9⟩ := S.fb y h
                exact ⟨h1, d, hd, fun z => hn (List.mem_of_mem_eraseIdx z), h9⟩
              · have : y = fr ++ sg c := by simpa using h
                subst this
                exact ⟨nm, c, nl, erase_out cs k c S.cn hk, (S.cb c cm).2⟩
    · rintro σ H1 ⟨x4, x5, x6, x7, cs, fs, l1, rfl, S⟩
      refine ⟨_, rfl, Fd, _, rfl, .inl ⟨sqOf S.hF, fun p np => ?_⟩⟩
      have pj : p ≠ j := (ne_of_none S.hj np).symm
      refine q p fs l1 _ ⟨by have := S.fl; omega, S.fn, (fun y hy => (S.fb y hy).1), fun y hy => by obtain ⟨_, c, h1, _, h2⟩ := S.fb y hy; exact ⟨c, h1, h2⟩⟩ upd_same ((upd_ne pj.symm).trans S.hj) (S.jl.mono (by omega)) ?_
      exact S.ej.new (S.ej.free pj np)
end
end Cv


/-! part K11I -/
set_option maxRecDepth 100000
set_option maxHeartbeats 4000000
namespace Cv
open PySem PySem.Spec PyProof.Rows L2
theorem glue_all {Pc : Nat → Prop} {cs : List Nat} (hc : ∀ c ∈ cs, Pc c) : (Txt.join (Str.ofString "") (cs.map sg)).length = cs.length ∧ ∀ c ∈ (Txt.join (Str.ofString "") (cs.map sg)).cps.toList, Pc c := by
  constructor
  · rw [PySem.W.KT.join_ones]
    · rw [List.length_map]
    · intro a ha
      obtain ⟨c, _, rfl⟩ := List.mem_map.mp ha
      rfl
  · intro c h
    have e : Txt.join (Str.ofString "") (cs.map sg) = Str.join (Str.ofString "") (cs.map sg) := by
      have := PyProof.Rows.join_plain_closes (Str.ofString "") (cs.map sg)
      simpa using this
    rw [e, PyProof.Rows.mem_join] at h
    rcases h with ⟨t, ht, hct⟩ | ⟨_, hct⟩
    · obtain ⟨d, hd, rfl⟩ := List.mem_map.mp ht
      have : c = d := by simpa [sg] using hct
      subst this
      exact hc c hd
    · rw [show (Str.ofString "").cps.toList = [] by decide +kernel] at hct
      exact nomatch hct
theorem ptC : (Str.ofString "ab/.09z").cps.toList = [97, 98, 47, 46, 48, 57, 122] := by decide +kernel
theorem ptIn : ∀ c ∈ [97, 98, 47, 46, 48, 57, 122], c ∈ signsP.cps.toList := by decide +kernel
theorem pick7 {r : Int} (h0 : 0 ≤ r) (h : r < 7) : ∃ c : Nat, atI (Str.ofString "ab/.09z").cps.toList r = some c ∧ c ∈ signsP.cps.toList := by
  rw [ptC]
  obtain ⟨m, c, rfl, hc, ha⟩ := atI_in (xs := [97, 98, 47, 46, 48, 57, 122]) h0 h
  exact ⟨c, ha, ptIn c (List.mem_of_getElem? hc)⟩
theorem pickS {a r : Int} (a0 : 0 ≤ a) (a1 : a < 3) (h0 : 0 ≤ r) (h : r < 3) : ∃ s : Int, atI [V.int 1, V.int (1 + a), V.int 20] r = some (.int s) ∧ 1 ≤ s ∧ s ≤ 20 := by
  have h4 : r = 0 ∨ r = 1 ∨ r = 2 := by omega
  rcases h4 with rfl | rfl | rfl
  · exact ⟨1, rfl, by decide, by decide⟩
  · exact ⟨1 + a, rfl, by omega, by omega⟩
  · exact ⟨20, rfl, by decide, by decide⟩
def spLP : Sp := fun vs H Q _ => ∃ (j : Addr) (l : List V) (n : Nat), vs = [.ref j] ∧ H j = some (.lst l) ∧ JarL l n ∧ n ≤ 10 ^ 8 ∧
  ∀ (x : Str) (l' : List V) (H' : Hp), IsPt x → H' j = some (.lst l') → JarL l' (n + 22) → Eff j H H' → Q (.str x) H'
section
variable {P : Program} {w : World} {K : PySem.W.Frag} {mg : Str → Option Value} {base : Heap}
theorem scLp : FnScope ["jar", "size", "step"] ["jar"] (defScope sLPath) := ⟨rfl, rfl, rfl, by decide +kernel, rfl, by decide +kernel, by decide +kernel⟩
theorem ok_lpath {f : Addr} {fd : FuncData} (F : Fun K "_law_path" "_law_path" sLPath f fd) (B : Bl mg) (DD : Has P w K mg base CX0 1 "_law_dip" ["jar", "many"] spDip) :
    FnOk P w K mg base CX0 2 f fd ["jar"] spLP := by
  refine F.ok scLp (fun vs H Q E h => ?_) (fun cdv A outer s H vs Q E hr h => ?_)
  · obtain ⟨j, l, n, rfl, _⟩ := h
    rfl
  · obtain ⟨j, l, n, rfl, hj, jl, hn, q⟩ := h
    refine ⟨_, pss_cons (ps_set (i := 1) scLp.nd rfl (.inl rfl) (pe_ix ix_list (pe_lst (pa_cons pe_int (pa_cons (pe_op op_add pe_int (pe_has DD hr pass0 (pa_cons (pv 0) (pa_cons pe_int pa_nil)))) (pa_cons pe_int pa_nil)))) (pe_has DD hr pass0 (pa_cons (pv 0) (pa_cons pe_int pa_nil))) (fun _ _ => rfl)))
      (pss_one (ps_ret (pe_join pe_str (pe_lc (own := [("step", 2)]) (tt := tYes) rfl scLp.nd (pi_range1 (by rfl) B.range (pa_cons (pv 1) pa_nil)) (blkOk_by (N := ["jar", "size", "step"]) (sc := defScope sLPath) (by decide +kernel))
            (fun _ _ _ _ _ => pg_name (i := 2) scLp.nd rfl (.inl rfl)) (fun _ _ _ _ _ => pts_nil) (fun _ _ _ _ _ => pe_ix ix_str pe_str (pe_has DD hr pass0 (pa_cons (pv 0) (pa_cons pe_int pa_nil))) (fun _ _ => rfl)))))), ?_⟩
    refine ⟨_, rfl, j, l, 3, n, rfl, hj, jl, by omega, by decide, by decide, fun a l1 a0 a1 jl1 => ⟨1, a, rfl, rfl, by show 3 ≤ sizeLine; decide, fun p0 np0 => ?_⟩⟩
    have hj1 : upd H j (.lst l1) j = some (.lst l1) := upd_same
    have e1 : Eff j H (upd H j (.lst l1)) := (Eff.refl j H).atj
    generalize upd H j (.lst l1) = H1 at hj1 e1 np0 ⊢
    have p0j : p0 ≠ j := (ne_of_none hj1 np0).symm
    refine ⟨_, rfl, j, l1, 3, n + 1, rfl, (upd_ne p0j.symm).trans hj1, jl1, by omega, by decide, by decide, fun r l2 r0 r1 jl2 => ?_⟩
    obtain ⟨sz, hsz, sz0, sz1⟩ := pickS a0 a1 r0 r1
    refine ⟨p0, _, r, _, rfl, rfl, sqOf ((upd_ne p0j).trans upd_same), hsz, ?_⟩
    generalize hH2 : upd (upd H1 p0 (.lst [V.int 1, V.int (1 + a), V.int 20])) j (.lst l2) = H2
    have e2 : Eff j H H2 := by rw [← hH2]; exact e1.trans (((Eff.refl j H1).new np0).atj)
    have hj2 : H2 j = some (.lst l2) := by rw [← hH2]; exact upd_same
    refine ⟨⟨_, rfl⟩, _, rfl, sz, rfl, by omega, by omega, fun D nD => ?_⟩
    have nDj : D ≠ j := (ne_of_none hj2 nD).symm
    refine lc_it walk_range (fun i' H' => ∃ (ds : List Nat) (l' : List V), H' D = some (.lst (ds.map fun c => V.str (sg c))) ∧ ds.length = i' ∧ (∀ c ∈ ds, c ∈ signsP.cps.toList) ∧ H' j = some (.lst l') ∧ JarL l' (n + 2 + i') ∧ Eff j H2 H')
      ⟨[], l2, upd_same, rfl, (fun _ q => nomatch q), (upd_ne nDj.symm).trans hj2, jl2, (Eff.refl j H2).new nD⟩ (fun _ _ _ _ => trivial) ?_ ?_
    · rintro i' x H3 H4 hi' ⟨ds, l3, hD, dl, db, hj3, jl3, e3⟩ ⟨rfl, rfl⟩
      refine ⟨rfl, ?_⟩
      refine ⟨_, rfl, j, l3, 7, n + 2 + i', rfl, hj3, jl3, by omega, by decide, by decide, fun r2 l4 r20 r21 jl4 => ?_⟩
      obtain ⟨c, hc, c0⟩ := pick7 r20 r21
      refine ⟨_, r2, c, rfl, rfl, by decide +kernel, hc, ds.map (fun c => V.str (sg c)), (upd_ne nDj).trans hD, ?_, ?_⟩
      · rw [List.length_map, dl]
        exact small1000 (by omega)
      · refine ⟨ds ++ [c], l4, ?_, by simp [dl], ?_, (upd_ne nDj.symm).trans upd_same, jl4, ?_⟩
        · rw [upd_same, List.map_append]
          rfl
        · intro d hd
          rcases List.mem_append.mp hd with h | h
          · exact db d h
          · rw [List.mem_singleton.mp h]
            exact c0
        · exact (e3.atj).new nD
    · rintro H3 ⟨ds, l3, hD, dl, db, hj3, jl3, e3⟩
      refine ⟨_, D, ds.map sg, rfl, rfl, .inl (sqOf (by rw [hD, List.map_map]; rfl)), ?_, ?_⟩
      · have : ((ds.map sg).map (·.length)).sum = ds.length := by
          rw [List.map_map]
          have : ∀ l : List Nat, (l.map ((·.length) ∘ sg)).sum = l.length := fun l => by
            induction l with
            | nil => rfl
            | cons a l ih => rw [List.map_cons, List.sum_cons, ih, List.length_cons]; show 1 + _ = _; omega
          exact this ds
        rw [this, show (Str.ofString "").length = 0 by decide +kernel]
        omega
      · obtain ⟨gl, gc⟩ := glue_all db
        exact q _ l3 H3 ⟨by omega, by omega, gc⟩ hj3 (jl3.mono (by omega)) (e2.trans e3)
end
end Cv

/-! part K11K -/
set_option maxRecDepth 100000
set_option maxHeartbeats 4000000
namespace Cv
open PySem PySem.Spec PyProof.Rows L2
theorem np_in {σ : L2.St} {H : Hp} {k : Option Int → Hp → Prop} (h : k none H) : tNoPart σ H k := h
theorem cutV_nat (xs : List V) (i : Nat) : cutV xs none (some (i : Int)) = xs.take i := by
  unfold cutV
  rw [HT.sIx_none, HT.sIx_nat, List.drop_zero, Nat.sub_zero]
  rcases Nat.le_total i xs.length with h | h
  · rw [Nat.min_eq_left h]
  · rw [Nat.min_eq_right h, List.take_of_length_le (Nat.le_refl _), List.take_of_length_le h]
/-- a text that the law writes -/
def TxS (t : Str) : Prop := t.length ≤ 28 ∧ ∀ c ∈ t.cps.toList, c < 1000
theorem pt_ch {x : Str} (h : IsPt x) : ∀ c ∈ x.cps.toList, c < 1000 := fun c hc => by
  have key : ∀ c ∈ signsP.cps.toList, c < 1000 := by decide +kernel
  exact key c (h.2.2 c hc)
theorem nm_ch {x : Str} (h : IsNm x) : ∀ c ∈ x.cps.toList, c < 1000 := fun c hc => by have := h.2.2 c hc; omega
theorem txt_in {r : Int} {y x : Str} (hy : IsNm y) (hx : IsPt x) (h0 : 0 ≤ r) (h : r < 5) : ∃ t, atI [V.str (Str.ofString ""), V.str (Str.ofString "x"), V.str y, V.str (Str.ofString "A b\n~"), V.str (y ++ x)] r = some (.str t) ∧ TxS t := by
  have h4 : r = 0 ∨ r = 1 ∨ r = 2 ∨ r = 3 ∨ r = 4 := by omega
  rcases h4 with rfl | rfl | rfl | rfl | rfl
  · exact ⟨_, rfl, by decide +kernel, by decide +kernel⟩
  · exact ⟨_, rfl, by decide +kernel, by decide +kernel⟩
  · exact ⟨_, rfl, Nat.le_trans hy.2.1 (by decide), nm_ch hy⟩
  · exact ⟨_, rfl, by decide +kernel, by decide +kernel⟩
  · refine ⟨_, rfl, ?_, fun c hc => ?_⟩
    · rw [strLen_append]
      have := hy.2.1
      have := hx.2.1
      omega
    · rw [Str.cps_append, Array.toList_append] at hc
      rcases List.mem_append.mp hc with m | m
      · exact nm_ch hy c m
      · exact pt_ch hx c m
theorem setF_tx {Pr : Str → Prop} {k v : Str} : ∀ {fs : Fs}, (∀ p ∈ fs, Pr p.2) → Pr v → ∀ p ∈ setF fs k v, Pr p.2
  | [], _, hv, p, hp => by
    rw [List.mem_singleton.mp hp]
    exact hv
  | q :: r, h, hv, p, hp => by
    have hp' : p ∈ (if q.1 = k then (q.1, v) :: r else q :: setF r k v) := hp
    by_cases e : q.1 = k
    · rw [if_pos e] at hp'
      rcases List.mem_cons.mp hp' with m | m
      · rw [m]; exact hv
      · exact h p (List.mem_cons_of_mem _ m)
    · rw [if_neg e] at hp'
      rcases List.mem_cons.mp hp' with m | m
      · rw [m]; exact h q List.mem_cons_self
      · exact setF_tx (fs := r) (fun p hp => h p (List.mem_cons_of_mem _ hp)) hv p m
structure LcSt (H0 H : Hp) (j P c : Addr) (n i : Nat) (PT ys : List Str) (ad : Str → Addr) (F : Str → Fs) (l : List V) : Prop where
  ej : Eff j H0 H
  hj : H j = some (.lst l)
  jl : JarL l (n + 902 + 81 * i)
  hP : H P = some (.lst (PT.map V.str))
  hc : H c = some (.dK (kvR (ys.take i) ad))
  fl : ∀ y ∈ ys.take i, H (ad y) = some (.dK (kvF (F y)))
  ne : ∀ y ∈ ys.take i, ad y ≠ c ∧ H0 (ad y) = none
  dj : ∀ y ∈ ys.take i, ∀ z ∈ ys.take i, ad y = ad z → y = z
  ok : ∀ y ∈ ys.take i, FOk PT (F y) ∧ ∀ p ∈ F y, TxS p.2
def spLC (K : PySem.W.Frag) : Sp := fun vs H Q _ => ∃ (j a : Addr) (l : List V) (mo : Int) (n : Nat) (ys : List Str), vs = [.ref j, .ref a, .int mo] ∧ H j = some (.lst l) ∧ JarL l n ∧ n ≤ 10 ^ 7 ∧ SqT K H a (ys.map V.str) ∧ a ≠ j ∧ Fold ys ∧ 1 ≤ mo ∧ mo ≤ 40 ∧
  ∀ (c : Addr) (PT : List Str) (ad : Str → Addr) (F : Str → Fs) (l' : List V) (H' : Hp), PT.length ≤ 40 → (∀ p ∈ PT, IsPt p) → AllOk PT ys F → (∀ y ∈ ys, ∀ p ∈ F y, TxS p.2) → ConAt H' c ys ad F → (∀ y ∈ ys, ∀ z ∈ ys, ad y = ad z → y = z) → H c = none → (∀ y ∈ ys, H (ad y) = none) →
    H' j = some (.lst l') → JarL l' (n + 3000) → Eff j H H' → Q (.ref c) H'
section
variable {P : Program} {w : World} {K : PySem.W.Frag} {mg : Str → Option Value} {base : Heap}
abbrev NLc : List Str := ["jar", "names_here", "most", "step", "paths", "found", "one", "files", "path_here"]
theorem scLc : FnScope NLc ["jar", "names_here", "most"] (defScope sLCont) := ⟨rfl, rfl, rfl, by decide +kernel, rfl, by decide +kernel, by decide +kernel⟩
theorem ok_lcont {f : Addr} {fd : FuncData} (F : Fun K "_law_contents" "_law_contents" sLCont f fd) (B : Bl mg) (DD : Has P w K mg base CX0 1 "_law_dip" ["jar", "many"] spDip) (DP : Has P w K mg base CX0 2 "_law_path" ["jar"] spLP) :
    FnOk P w K mg base CX0 3 f fd ["jar", "names_here", "most"] (spLC K) := by
  refine F.ok scLc (fun vs H Q E h => ?_) (fun cdv A outer s H vs Q E hr h => ?_)
  · obtain ⟨j, a, l, mo, n, ys, rfl, _⟩ := h
    rfl
  · obtain ⟨j, a, l, mo, n, ys, rfl, hj, jl, hn, ha, aj, FO, m1, m40, q⟩ := h
    refine ⟨_, pss_cons (ps_set (i := 4) scLc.nd rfl (.inl rfl) (pe_slice sl_list (pe_sortSet rfl (by rfl) B.sorted (by rfl) B.set (pe_lc (own := [("step", 3)]) (tt := tYes) (te := tCl spLP E0 (tCons (tVar 0) tNil)) rfl scLc.nd (pi_range1 (by rfl) B.range (pa_cons (pe_op op_add pe_int (pv 2)) pa_nil)) (blkOk_by (N := NLc) (sc := defScope sLCont) (by decide +kernel))
            (fun _ _ _ _ _ => pg_name (i := 3) scLc.nd rfl (.inl rfl)) (fun _ _ _ _ _ => pts_nil) (fun _ _ _ _ _ => pe_has DP hr pass0 (pa_cons (pv 0) pa_nil)))) po_none (po_some pe_int)))
      (pss_cons (ps_set (i := 5) scLc.nd rfl (.inl rfl) pe_dnewK)
      (pss_cons (ps_for PassesOwn.never rfl (pi_tup (pv 1)) (pg_name (i := 6) scLc.nd rfl (.inl rfl))
        (pss_cons (ps_set (i := 7) scLc.nd rfl (.inl rfl) pe_dnewK)
        (pss_cons (ps_for PassesOwn.never rfl (pi_range1 (by rfl) B.range (pa_cons (pe_has DD hr pass0 (pa_cons (pv 0) (pa_cons (pe_op op_add (pv 2) pe_int) pa_nil))) pa_nil)) (pg_name (i := 3) scLc.nd rfl (.inl rfl))
          (pss_cons (ps_set (i := 8) scLc.nd rfl (.inl rfl) (pe_ix ix_list (pv 4) (pe_has DD hr pass0 (pa_cons (pv 0) (pa_cons (pe_callB call_len_seq (by rfl) B.len PySem.boot_len (pa_cons (pv 4) pa_nil)) pa_nil))) (fun _ _ => rfl)))
          (pss_one (ps_dput (hu1 hr) (pv 7) (pv 8) (pe_ix ix_list (pe_lst (pa_cons pe_str (pa_cons pe_str (pa_cons (pv 6) (pa_cons pe_str (pa_cons (pe_op op_add_str (pv 6) (pv 8)) pa_nil)))))) (pe_has DD hr pass0 (pa_cons (pv 0) (pa_cons pe_int pa_nil))) (fun _ _ => rfl)) rfl))))
        (pss_one (ps_dput (hu1 hr) (pv 5) (pv 6) (pv 7) rfl)))))
      (pss_one (ps_ret (pv 5))))), ?_⟩
    have y20 := FO.hi
    -- paths
    refine ⟨_, rfl, 1, mo, rfl, rfl, 1 + mo, rfl, by omega, by omega, fun D nD => ?_⟩
    have nDj : D ≠ j := (ne_of_none hj nD).symm
    refine lc_it walk_range (fun i' H' => ∃ (xs : List Str) (l' : List V), H' D = some (.lst (xs.map V.str)) ∧ xs.length = i' ∧ (∀ x ∈ xs, IsPt x) ∧ H' j = some (.lst l') ∧ JarL l' (n + 22 * i') ∧ Eff j H H')
      ⟨[], l, upd_same, rfl, (fun _ q => nomatch q), (upd_ne nDj.symm).trans hj, jl, (Eff.refl j H).new nD⟩ (fun _ _ _ _ => trivial) ?_ ?_
    · rintro i' x H3 H4 hi' ⟨xs, l3, hD, dl, db, hj3, jl3, e3⟩ ⟨rfl, rfl⟩
      refine ⟨rfl, _, rfl, j, l3, n + 22 * i', rfl, hj3, jl3, by omega, fun x l4 H5 px hj5 jl5 e5 => ?_⟩
      have hD5 := e5 _ _ nDj hD
      refine ⟨xs.map V.str, hD5, by rw [List.length_map, dl]; exact small1000 (by omega), xs ++ [x], l4, ?_, by simp [dl], ?_, (upd_ne nDj.symm).trans hj5, jl5.mono (by omega), (e3.trans e5).new nD⟩
      · rw [upd_same, List.map_append]
        rfl
      · intro z hz
        rcases List.mem_append.mp hz with h | h
        · exact db z h
        · rw [List.mem_singleton.mp h]
          exact px
    rintro H1 ⟨xs, l1, hD, dl, db, hj1, jl1, e1⟩
    refine ⟨D, xs, rfl, .inr (sqOf0 hD), by omega, fun zs p5 nd mem le so5 n5 => ?_⟩
    have p5j : p5 ≠ j := (ne_of_none hj1 n5).symm
    have e2 : Eff j H (upd H1 p5 (.lst (zs.map V.str))) := e1.trans (Eff.same (same_new n5))
    have hj2 := (same_new (o := .lst (zs.map V.str)) n5) _ _ hj1
    have h5 : upd H1 p5 (.lst (zs.map V.str)) p5 = some (.lst (zs.map V.str)) := upd_same
    generalize upd H1 p5 (.lst (zs.map V.str)) = H2 at e2 hj2 h5 ⊢
    refine np_in ⟨_, rfl, p5, _, rfl, sqOf0 h5, fun P nP => ?_⟩
    rw [show (40 : Int) = ((40 : Nat) : Int) from rfl, cutV_nat, ← List.map_take]
    have hPT : ∀ p ∈ zs.take 40, IsPt p := fun p hp => db p ((mem p).mp (List.mem_of_mem_take hp))
    have lPT : (zs.take 40).length ≤ 40 := List.length_take_le _ _
    have nPT : 1 ≤ (zs.take 40).length := by
      have hx : 0 < xs.length := by omega
      have h1 : xs[0] ∈ zs := (mem _).mpr (List.getElem_mem hx)
      have := List.length_pos_of_mem h1
      rw [List.length_take]
      omega
    generalize zs.take 40 = PT at hPT lPT nPT ⊢
    have Pj : P ≠ j := (ne_of_none hj2 nP).symm
    have e3 : Eff j H (upd H2 P (.lst (PT.map V.str))) := e2.trans (Eff.same (same_new nP))
    have hj3 := (same_new (o := .lst (PT.map V.str)) nP) _ _ hj2
    have hP : upd H2 P (.lst (PT.map V.str)) P = some (.lst (PT.map V.str)) := upd_same
    generalize upd H2 P (.lst (PT.map V.str)) = H3 at e3 hj3 hP ⊢
    -- found
    refine fun c nc => ?_
    have cj : c ≠ j := (ne_of_none hj3 nc).symm
    have cP : c ≠ P := (ne_of_none hP nc).symm
    have fc : H c = none := e3.free cj nc
    refine ⟨_, rfl, a, rfl, ⟨ys.map V.str, eff_t (e3.trans (Eff.same (same_new nc))) aj ha⟩, ?_⟩
    refine for_tup (xs := ys.map V.str) (fun i σ H' => ∃ x3 x6 x7 x8 ad F l', σ = [some (.ref j), some (.ref a), some (.int mo), x3, some (.ref P), some (.ref c), x6, x7, x8] ∧ LcSt H H' j P c n i PT ys ad F l')
      ⟨none, none, none, none, fun _ => 0, fun _ => [], l1, rfl, e3.trans (Eff.same (same_new nc)), (upd_ne cj.symm).trans hj3, jl1.mono (by omega), (upd_ne cP.symm).trans hP, upd_same, (fun y hy => nomatch hy), (fun y hy => nomatch hy), (fun y hy => nomatch hy), fun y hy => nomatch hy⟩
      (fun i σ H' _ h => by obtain ⟨_, _, _, _, _, _, _, _, S⟩ := h; exact eff_t S.ej aj ha) ?_ ?_
    · rintro i x σ H4 hx ⟨x3, x6, x7, x8, ad, FF, l4, rfl, S⟩
      obtain ⟨y, hy, rfl⟩ := strs_at hx
      have my := List.mem_of_getElem? hy
      have ny := nin_take FO.nd hy
      have il : i < ys.length := (List.getElem?_eq_some_iff.mp hy).1
      refine fun f nf => ?_
      have fj : f ≠ j := (ne_of_none S.hj nf).symm
      have fP : f ≠ P := (ne_of_none S.hP nf).symm
      have fcc : f ≠ c := (ne_of_none S.hc nf).symm
      have f0 : H f = none := S.ej.free fj nf
      have eN : Eff j H4 (upd H4 f (.dK [])) := (Eff.refl j H4).new nf
      refine ⟨_, rfl, _, rfl, mo, 1, rfl, rfl, j, l4, mo + 1, n + 902 + 81 * i, rfl, (upd_ne fj.symm).trans S.hj, S.jl, by omega, by omega, by omega, fun T l5 T0 T1 jl5 => ⟨T, rfl, by omega, by omega, ?_⟩⟩
      have hf5 : upd (upd H4 f (.dK [])) j (.lst l5) f = some (.dK (kvF [])) := (upd_ne fj).trans upd_same
      have hj5 : upd (upd H4 f (.dK [])) j (.lst l5) j = some (.lst l5) := upd_same
      have e5 : Eff j H4 (upd (upd H4 f (.dK [])) j (.lst l5)) := eN.atj
      generalize upd (upd H4 f (.dK [])) j (.lst l5) = H5 at hf5 hj5 e5 ⊢
      refine for_range (lo := 0) (n := T.toNat) (fun k σ H' => ∃ x3 x8 fs l', σ = [some (.ref j), some (.ref a), some (.int mo), x3, some (.ref P), some (.ref c), some (.str y), some (.ref f), x8] ∧ Eff j H4 H' ∧ H' f = some (.dK (kvF fs)) ∧ FOk PT fs ∧ (∀ p ∈ fs, TxS p.2) ∧ H' j = some (.lst l') ∧ JarL l' (n + 902 + 81 * i + 1 + 2 * k))
        ⟨_, _, [], l5, rfl, e5, hf5, fok_nil PT, (fun _ h => nomatch h), hj5, jl5⟩ ?_ ?_
      · rintro k σ H6 hk ⟨x3, x8, fs, l6, rfl, e6, hf6, FK, TX, hj6, jl6⟩
        have hP6 := e6 _ _ Pj S.hP
        refine ⟨_, rfl, _, rfl, _, rfl, P, _, rfl, .inl (sqOf0 hP6), ?_⟩
        refine ⟨j, l6, _, n + 902 + 81 * i + 1 + 2 * k, rfl, hj6, jl6, by omega, by rw [List.length_map]; omega, by rw [List.length_map]; omega, fun r l7 r0 r1 jl7 => ?_⟩
        rw [List.length_map] at r1
        obtain ⟨m, x, rfl, hxm, hat⟩ := atI_in r0 r1
        have mx : x ∈ PT := List.mem_of_getElem? hxm
        have px := hPT x mx
        refine ⟨P, PT.map V.str, (m : Int), V.str x, rfl, rfl, sqOf ((upd_ne Pj).trans hP6), atI_nat (by rw [List.getElem?_map, hxm]; rfl), ?_⟩
        have hj7 : upd H6 j (.lst l7) j = some (.lst l7) := upd_same
        have e7 : Eff j H6 (upd H6 j (.lst l7)) := (Eff.refl j H6).atj
        generalize upd H6 j (.lst l7) = H7 at hj7 e7 ⊢
        have nm := FO.nm y my
        refine ⟨_, rfl, _, rfl, _, rfl, y, x, rfl, rfl, Nat.le_trans (show y.length + x.length ≤ 64 by have := nm.2.1; have := px.2.1; omega) (by decide), by show 5 ≤ sizeLine; decide, fun p np => ?_⟩
        have pj : p ≠ j := (ne_of_none hj7 np).symm
        refine ⟨_, rfl, j, l7, 5, n + 902 + 81 * i + 2 + 2 * k, rfl, (upd_ne pj.symm).trans hj7, jl7.mono (by omega), by omega, by decide, by decide, fun r2 l8 r20 r21 jl8 => ?_⟩
        obtain ⟨t, ht, tx⟩ := txt_in nm px r20 r21
        refine ⟨p, _, r2, _, rfl, rfl, sqOf ((upd_ne pj).trans upd_same), ht, ?_⟩
        generalize hH8 : upd (upd H7 p _) j (.lst l8) = H8
        have e8 : Eff j H6 H8 := by rw [← hH8]; exact e7.trans (((Eff.refl j H7).new np).atj)
        have hj8 : H8 j = some (.lst l8) := by rw [← hH8]; exact upd_same
        have hf8 := e8 _ _ fj hf6
        have lk : (kvF fs).length < sizeLine := by rw [List.length_map]; exact small1000 (by have := FK.len; omega)
        refine ⟨_, rfl, _, rfl, f, _, rfl, DPut.k (k := .inr x) hf8 lk, ?_⟩
        rw [kvF_put FK.nd]
        exact ⟨_, _, setF fs x t, l8, rfl, (e6.trans e8).new nf, upd_same, FK.set mx, setF_tx TX tx, (upd_ne fj.symm).trans hj8, jl8.mono (by omega)⟩
      · rintro σ H6 ⟨x3, x8, fs, l6, rfl, e6, hf6, FK, TX, hj6, jl6⟩
        have hc6 := e6 _ _ cj S.hc
        have lk : (kvR (ys.take i) ad).length < sizeLine := by rw [List.length_map]; exact small1000 (by rw [List.length_take]; omega)
        refine ⟨_, rfl, _, rfl, _, rfl, c, _, rfl, DPut.k (k := .inr y) hc6 lk, ?_⟩
        rw [kv_add ny]
        have tk : ys.take (i + 1) = ys.take i ++ [y] := by rw [List.take_add_one, hy]; rfl
        have cs : ∀ z ∈ ys.take (i + 1), z = y ∨ (z ≠ y ∧ z ∈ ys.take i) := fun z hz => by
          by_cases e : z = y
          · exact .inl e
          · rw [tk] at hz
            rcases List.mem_append.mp hz with m | m
            · exact .inr ⟨e, m⟩
            · exact absurd (List.mem_singleton.mp m) e
        have nf4 : ∀ z ∈ ys.take i, ad z ≠ f := fun z hz e => by
          have := S.fl z hz
          rw [e, nf] at this
          cases this
        have nj4 : ∀ z ∈ ys.take i, ad z ≠ j := fun z hz e => by
          have := S.fl z hz
          rw [e, S.hj] at this
          cases this
        refine ⟨_, _, _, _, upA ad y f, (fun z => if z = y then fs else FF z), l6, rfl, (S.ej.trans e6).new fc, (upd_ne cj.symm).trans hj6, jl6.mono (by omega), (upd_ne cP.symm).trans (e6 _ _ Pj S.hP), ?_, fun z hz => ?_, fun z hz => ?_, fun z hz u hu e => ?_, fun z hz => ?_⟩
        · rw [upd_same, tk]
        · show upd H6 c _ (if z = y then f else ad z) = some (.dK (kvF (if z = y then fs else FF z)))
          rcases cs z hz with e | ⟨e, m⟩
          · rw [if_pos e, if_pos e, upd_ne fcc]
            exact hf6
          · rw [if_neg e, if_neg e, upd_ne (S.ne z m).1]
            exact e6 _ _ (nj4 z m) (S.fl z m)
        · show (if z = y then f else ad z) ≠ c ∧ H (if z = y then f else ad z) = none
          rcases cs z hz with e | ⟨e, m⟩
          · rw [if_pos e]
            exact ⟨fcc, f0⟩
          · rw [if_neg e]
            exact S.ne z m
        · have e2 : (if z = y then f else ad z) = (if u = y then f else ad u) := e
          rcases cs z hz with h1 | ⟨h1, m1⟩ <;> rcases cs u hu with h2 | ⟨h2, m2⟩
          · rw [h1, h2]
          · rw [if_pos h1, if_neg h2] at e2
            exact absurd e2.symm (nf4 u m2)
          · rw [if_neg h1, if_pos h2] at e2
            exact absurd e2 (nf4 z m1)
          · rw [if_neg h1, if_neg h2] at e2
            exact S.dj z m1 u m2 e2
        · show FOk PT (if z = y then fs else FF z) ∧ ∀ p ∈ (if z = y then fs else FF z), TxS p.2
          rcases cs z hz with e | ⟨e, m⟩
          · rw [if_pos e]
            exact ⟨FK, TX⟩
          · rw [if_neg e]
            exact S.ok z m
    · rintro σ H4 ⟨x3, x6, x7, x8, ad, FF, l4, rfl, S⟩
      rw [List.length_map] at S
      have ti : ys.take ys.length = ys := List.take_of_length_le (Nat.le_refl _)
      refine ⟨_, rfl, ?_⟩
      have hc := S.hc
      have fl := S.fl
      have ne := S.ne
      have dj := S.dj
      have ok := S.ok
      rw [ti] at hc fl ne dj ok
      exact q c PT ad FF l4 H4 lPT hPT (fun y hy => (ok y hy).1) (fun y hy => (ok y hy).2) ⟨hc, fl, fun y hy => (ne y hy).1⟩ dj fc (fun y hy => (ne y hy).2) S.hj (S.jl.mono (by omega)) S.ej
end
end Cv

/-! part K11CA -/
set_option maxRecDepth 100000
set_option maxHeartbeats 4000000
namespace Cv
open PySem PySem.Spec PyProof.Rows L2
/-! ### what the checks say of data -/
def isOneD (ys : List Str) : PyData → Bool
  | .str x => decide (x ∈ ys)
  | _ => false
def areDiffD (ys : List Str) (ds : List PyData) : Bool := ds.all (isOneD ys) && decide (strsOf ds).Nodup
def areSomeD (ys : List Str) : PyData → Bool
  | .tuple ds => areDiffD ys ds
  | _ => false
def isListD (ys : List Str) (n : Str) : PyData → Bool
  | .list ds => areDiffD ys ds && decide (n ∈ strsOf ds)
  | _ => false
theorem ones_vals {K : PySem.W.Frag} {H : Hp} {j : Addr} {ys : List Str} : ∀ {vs : List V} {ds : List PyData}, DxAll K H j vs ds → ds.all (isOneD ys) = true → vs = (strsOf ds).map V.str ∧ (strsOf ds).length = ds.length
  | _, _, .nil, _ => ⟨rfl, rfl⟩
  | _, _, .cons (d := d) (ds := ds) h t, e => by
    have e2 : (isOneD ys d && ds.all (isOneD ys)) = true := e
    rw [Bool.and_eq_true] at e2
    obtain ⟨a, b⟩ := ones_vals t e2.2
    cases h with
    | str x => rw [a]; exact ⟨rfl, congrArg Nat.succ b⟩
    | non => exact nomatch e2.1
    | bl _ => exact nomatch e2.1
    | int _ => exact nomatch e2.1
    | lst _ _ _ => exact nomatch e2.1
    | tup _ _ _ => exact nomatch e2.1
    | dic _ _ _ => exact nomatch e2.1
theorem fn_weak {P : Program} {w : World} {K : PySem.W.Frag} {mg : Str → Option Value} {base : Heap} {CX : CXT} {k : Nat} {f : Addr} {fd : FuncData} {ps : List Str} {sp sp' : Sp} (F : FnOk P w K mg base CX k f fd ps sp) (h : ∀ vs H Q E, sp' vs H Q E → sp vs H Q E) : FnOk P w K mg base CX k f fd ps sp' :=
  ⟨fun vs H Q E q => F.len vs H Q E (h _ _ _ _ q), fun A outer s H args us vs Q E hr e0 hb r q => F.run A outer s H args us vs Q E hr e0 hb r (h _ _ _ _ q)⟩
theorem hu1' {A : Around} {k : Nat} (hr : Room k A) : A.units + 1 < cLine := by have := hr.units; omega
theorem has_weak {P : Program} {w : World} {K : PySem.W.Frag} {mg : Str → Option Value} {base : Heap} {CX : CXT} {k : Nat} {x : Str} {ps : List Str} {sp sp' : Sp} (F : Has P w K mg base CX k x ps sp) (h : ∀ vs H Q E, sp' vs H Q E → sp vs H Q E) : Has P w K mg base CX k x ps sp' := by
  obtain ⟨f, fd, G, a, b, c⟩ := F.ex
  exact ⟨f, fd, fn_weak G h, a, b, c⟩
def spOneG (K : PySem.W.Frag) : Sp := fun vs H Q _ => ∃ (j : Addr) (v f : V) (d : PyData) (ys : List Str), vs = [v, f] ∧ Dx K H j v d ∧ FolAt K H f ys ∧ Q (.bl (isOneD ys d)) H
section
variable {P : Program} {w : World} {K : PySem.W.Frag} {mg : Str → Option Value} {base : Heap}
theorem scOg : FnScope ["value", "folders"] ["value", "folders"] (defScope sOneOf) := ⟨rfl, rfl, rfl, by decide +kernel, rfl, by decide +kernel, by decide +kernel⟩
theorem ok_oneG {f : Addr} {fd : FuncData} (F : Fun K "is_one_of" "is_one_of" sOneOf f fd) (B : Bl mg) : FnOk P w K mg base CX0 1 f fd ["value", "folders"] (spOneG K) := by
  refine F.ok scOg (fun vs H Q E h => ?_) (fun cdv A outer s H vs Q E hr h => ?_)
  · obtain ⟨j, v, f, d, ys, rfl, _⟩ := h
    rfl
  · obtain ⟨j, v, f, d, ys, rfl, hx, hf, q⟩ := h
    refine ⟨_, pss_one (ps_ret (pe_and (pe_callB call_isi (by rfl) B.isi (by decide +kernel) (pa_cons (pv 0) (pa_cons (pe_bltn (v := .ty "str") (u := .type "str") (by rfl) B.str (by decide +kernel) rfl) pa_nil)))
      (pe_one (pe_cmpR (op_inE (hu1' hr)) (pv 0) (pv 1) rfl)))), ?_⟩
    refine ⟨_, rfl, v, .ty "str", _, _, _, rfl, .ty "str", hx.ty, kit_ty (kit_str d), isStr d, rfl, ?_⟩
    cases hx with
    | str x => exact ⟨_, rfl, _, rfl, inE_of hf q⟩
    | non => exact q
    | bl _ => exact q
    | int _ => exact q
    | lst _ _ _ => exact q
    | tup _ _ _ => exact q
    | dic _ _ _ => exact q
end
end Cv

/-! part K11CB -/
set_option maxRecDepth 100000
set_option maxHeartbeats 4000000
namespace Cv
open PySem PySem.Spec PyProof.Rows L2
def spDiffG (K : PySem.W.Frag) : Sp := fun vs H Q _ => ∃ (j a : Addr) (f : V) (xs : List V) (ds : List PyData) (ys : List Str), vs = [.ref a, f] ∧ (SqL K H a xs ∨ SqT K H a xs) ∧ DxAll K H j xs ds ∧ ds.length ≤ 1000 ∧ FolAt K H f ys ∧
  ∀ H', Same H H' → Q (.bl (areDiffD ys ds)) H'
theorem perm_of_card : ∀ {ys xs : List Str}, ys.Nodup → (∀ y ∈ ys, y ∈ xs) → xs.length ≤ ys.length → ys.Perm xs
  | [], xs, _, _, h => by
    have : xs = [] := List.eq_nil_of_length_eq_zero (by simpa using h)
    rw [this]
  | y :: ys, xs, nd, hs, h => by
    obtain ⟨h1, h2⟩ := List.nodup_cons.mp nd
    have hy := hs y List.mem_cons_self
    have ih := perm_of_card (ys := ys) (xs := xs.erase y) h2 (fun z hz => (List.mem_erase_of_ne (fun (e : z = y) => h1 (e ▸ hz))).mpr (hs z (List.mem_cons_of_mem _ hz))) (by
      rw [List.length_erase_of_mem hy]
      rw [List.length_cons] at h
      omega)
    exact (List.Perm.cons y ih).trans (List.perm_cons_erase hy).symm
theorem nodup_len {xs ys : List Str} (nd : ys.Nodup) (hm : ∀ y, y ∈ ys ↔ y ∈ xs) : decide (V.int (ys.length : Int) = V.int (xs.length : Int)) = decide xs.Nodup := by
  have h1 : ys.length ≤ xs.length := nodup_sub_len nd fun z h => (hm z).mp h
  by_cases h : xs.Nodup
  · have h2 : xs.length ≤ ys.length := nodup_sub_len h fun z h => (hm z).mpr h
    have e : ys.length = xs.length := by omega
    rw [e, decide_eq_true rfl, decide_eq_true h]
  · rw [decide_eq_false h, decide_eq_false fun z => h ?_]
    have e : ys.length = xs.length := by injection z with z; omega
    exact (perm_of_card nd (fun z h => (hm z).mp h) (by omega)).nodup_iff.mp nd
section
variable {P : Program} {w : World} {K : PySem.W.Frag} {mg : Str → Option Value} {base : Heap}
theorem scDf : FnScope ["names", "folders", "name"] ["names", "folders"] (defScope sAreDifferent) := ⟨rfl, rfl, rfl, by decide +kernel, rfl, by decide +kernel, by decide +kernel⟩
theorem ok_diffG {f : Addr} {fd : FuncData} (F : Fun K "are_different" "are_different" sAreDifferent f fd) (B : Bl mg) (DO : Has P w K mg base CX0 1 "is_one_of" ["value", "folders"] (spOneG K)) : FnOk P w K mg base CX0 2 f fd ["names", "folders"] (spDiffG K) := by
  refine F.ok scDf (fun vs H Q E h => ?_) (fun cdv A outer s H vs Q E hr h => ?_)
  · obtain ⟨j, a, f, xs, ds, ys, rfl, _⟩ := h
    rfl
  · obtain ⟨j, a, f, xs, ds, ys, rfl, ha, hd, ld, hf, q⟩ := h
    refine ⟨_, pss_one (ps_ret (pe_and (pe_callB (cr_all rfl) (by rfl) B.all (by decide +kernel) (pa_cons (pe_lc (own := [("name", 2)]) (tt := tYes) (te := tCl (spOneG K) E0 (tCons (tVar 2) (tCons (tVar 1) tNil))) rfl scDf.nd (pi_seq (pv 0)) (blkOk_by (N := ["names", "folders", "name"]) (sc := defScope sAreDifferent) (by decide +kernel))
            (fun _ _ _ _ _ => pg_name (i := 2) scDf.nd rfl (.inl rfl)) (fun _ _ _ _ _ => pts_nil) (fun _ _ _ _ _ => pe_has DO hr pass0 (pa_cons (pv 2) (pa_cons (pv 1) pa_nil)))) pa_nil))
        (pe_one (pe_cmpR op_eq (pe_lenSetE rfl (by rfl) B.len (by rfl) B.set (pv 0)) (pe_callB call_len_seq (by rfl) B.len PySem.boot_len (pa_cons (pv 0) pa_nil)) (nomark _))))), ?_⟩
    have e0 := hd.len
    refine ⟨_, rfl, a, rfl, iSeq_of ha fun J G W hG D nD => ?_⟩
    refine lc_it W (fun i H' => H' D = some (.lst (((ds.take i).map (isOneD ys)).map V.bl)) ∧ Same H H') ⟨upd_same, same_new nD⟩ (fun i H' _ h => hG H' h.2) ?_ ?_
    · rintro i x H1 H2 hi ⟨hD, e1⟩ ⟨rfl, hc⟩
      obtain ⟨di, hdi, hxi⟩ := hd.get hc
      refine ⟨rfl, _, rfl, _, rfl, j, x, f, di, ys, rfl, hxi.same e1, hf.same e1, ?_⟩
      refine ⟨_, hD, ?_, ?_, same_up e1 nD⟩
      · rw [List.length_map, List.length_map, List.length_take]
        exact Nat.lt_of_le_of_lt (show min i ds.length ≤ 1000 by omega) (by decide)
      · rw [upd_same, List.take_add_one, hdi, List.map_append, List.map_append]
        rfl
    · rintro H1 ⟨hD, e1⟩
      have e : ((ds.take xs.length).map (isOneD ys)).all id = ds.all (isOneD ys) := by
        rw [List.take_of_length_le (by omega), List.all_map]
        rfl
      refine ⟨D, _, rfl, sqOf0 hD, _, rfl, ?_⟩
      rw [e]
      refine ite2 (fun cA => ?_) (fun cA => ?_)
      · obtain ⟨ev, ln⟩ := ones_vals hd cA
        subst ev
        have hs1 : SqL K H1 a ((strsOf ds).map V.str) ∨ SqT K H1 a ((strsOf ds).map V.str) := ha.imp (sameL e1) (sameT e1)
        refine ⟨_, rfl, a, strsOf ds, rfl, hs1, by omega, fun zs nd hm => ?_⟩
        refine ⟨_, rfl, a, _, rfl, hs1, rfl, ?_⟩
        rw [List.length_map, nodup_len nd hm]
        have := q H1 e1
        rw [areDiffD, cA, Bool.true_and] at this
        exact this
      · have := q H1 e1
        rw [areDiffD, Bool.eq_false_iff.mpr cA, Bool.false_and] at this
        exact this
end
end Cv

/-! part K11CC -/
set_option maxRecDepth 100000
set_option maxHeartbeats 4000000
namespace Cv
open PySem PySem.Spec PyProof.Rows L2
def shortT : PyData → Prop
  | .tuple ds => ds.length ≤ 1000
  | .list ds => ds.length ≤ 1000
  | _ => True
def spSomeG (K : PySem.W.Frag) : Sp := fun vs H Q _ => ∃ (j : Addr) (v f : V) (d : PyData) (ys : List Str), vs = [v, f] ∧ Dx K H j v d ∧ shortT d ∧ FolAt K H f ys ∧ ∀ H', Same H H' → Q (.bl (areSomeD ys d)) H'
section
variable {P : Program} {w : World} {K : PySem.W.Frag} {mg : Str → Option Value} {base : Heap}
theorem scSg : FnScope ["value", "folders"] ["value", "folders"] (defScope sSomeOf) := ⟨rfl, rfl, rfl, by decide +kernel, rfl, by decide +kernel, by decide +kernel⟩
theorem ok_someG {f : Addr} {fd : FuncData} (F : Fun K "are_some_of" "are_some_of" sSomeOf f fd) (B : Bl mg) (DF : Has P w K mg base CX0 2 "are_different" ["names", "folders"] (spDiffG K)) : FnOk P w K mg base CX0 3 f fd ["value", "folders"] (spSomeG K) := by
  refine F.ok scSg (fun vs H Q E h => ?_) (fun cdv A outer s H vs Q E hr h => ?_)
  · obtain ⟨j, v, f, d, ys, rfl, _⟩ := h
    rfl
  · obtain ⟨j, v, f, d, ys, rfl, hx, sh, hf, q⟩ := h
    refine ⟨_, pss_one (ps_ret (pe_and (pe_callB call_isi (by rfl) B.isi (by decide +kernel) (pa_cons (pv 0) (pa_cons (pe_bltn (v := .ty "tuple") (u := .type "tuple") (by rfl) B.tuple (by decide +kernel) rfl) pa_nil)))
      (pe_one (pe_has DF hr pass0 (pa_cons (pv 0) (pa_cons (pv 1) pa_nil)))))), ?_⟩
    refine ⟨_, rfl, v, .ty "tuple", _, _, _, rfl, .ty "tuple", hx.ty, kit_ty (kit_tup d), isTup d, rfl, ?_⟩
    cases hx with
    | tup n hs ha => exact ⟨_, rfl, _, rfl, j, _, f, _, _, ys, rfl, .inr hs, ha, sh, hf, q⟩
    | non => exact q H (Same.refl H)
    | bl _ => exact q H (Same.refl H)
    | int _ => exact q H (Same.refl H)
    | str _ => exact q H (Same.refl H)
    | lst _ _ _ => exact q H (Same.refl H)
    | dic _ _ _ => exact q H (Same.refl H)
end
end Cv

/-! part K11WI -/
set_option maxRecDepth 100000
set_option maxHeartbeats 4000000
namespace Cv
open PySem PySem.Spec PyProof.Rows L2
/-- owners -/
structure Ow (ys ow : List Str) : Prop where
  nd : ow.Nodup
  sub : ∀ y ∈ ow, y ∈ ys
theorem Ow.len {ys ow : List Str} (h : Ow ys ow) : ow.length ≤ ys.length := nodup_sub_len h.nd h.sub
def spSome (K : PySem.W.Frag) : Sp := fun vs H Q _ => ∃ (o a : Addr) (ow ys : List Str), vs = [.ref o, .ref a] ∧ SqT K H o (ow.map V.str) ∧ SqT K H a (ys.map V.str) ∧ Ow ys ow ∧ ys.length ≤ 20 ∧ ∀ H', Same H H' → Q (.bl true) H'
def spWin (K : PySem.W.Frag) : Sp := fun vs H Q _ => ∃ (j a p o : Addr) (ys ow : List Str) (cs : List Cp) (y : Str), vs = [.ref a, .ref p, .str y, .ref o] ∧ y ∈ ys ∧ Fold ys ∧ Scr ys cs ∧ SqT K H a (ys.map V.str) ∧ a ≠ j ∧ Dx K H j (.ref p) (planD cs) ∧ SqT K H o (ow.map V.str) ∧ Ow ys ow ∧
  ∀ H', Same H H' → Q (oV (own1 ow (runR cs y))) H'
section
variable {P : Program} {w : World} {K : PySem.W.Frag} {mg : Str → Option Value} {base : Heap}
theorem one_weak (vs : List V) (H : Hp) (Q : VK) (E : XK) (h : spOneOf K vs H Q E) : spOneG K vs H Q E := by
  obtain ⟨a, y, ys, rfl, ha, q⟩ := h
  exact ⟨0, _, _, .str y, ys, rfl, .str y, ⟨a, rfl, .inl ha⟩, q⟩
theorem ones_all {ys : List Str} : ∀ {ow : List Str}, (∀ y ∈ ow, y ∈ ys) → (ow.map PyData.str).all (isOneD ys) = true
  | [], _ => rfl
  | y :: ow, h => by
    show (decide (y ∈ ys) && (ow.map PyData.str).all (isOneD ys)) = true
    rw [decide_eq_true (h y List.mem_cons_self), ones_all fun z hz => h z (List.mem_cons_of_mem _ hz)]
    rfl
theorem some_weak (vs : List V) (H : Hp) (Q : VK) (E : XK) (h : spSome K vs H Q E) : spSomeG K vs H Q E := by
  obtain ⟨o, a, ow, ys, rfl, ho, ha, OW, y20, q⟩ := h
  have ol := OW.len
  have e : areSomeD ys (.tuple (ow.map .str)) = true := by
    show ((ow.map PyData.str).all (isOneD ys) && decide (strsOf (ow.map .str)).Nodup) = true
    rw [ones_all OW.sub, strsOf_map, decide_eq_true OW.nd]
    rfl
  refine ⟨o + 1, _, _, .tuple (ow.map .str), ys, rfl, .tup (Nat.ne_of_lt (Nat.lt_succ_self o)) ho (strs_dx ow), ?_, ⟨a, rfl, .inl ha⟩, ?_⟩
  · show (ow.map PyData.str).length ≤ 1000
    rw [List.length_map]
    omega
  · rw [e]
    exact q
abbrev NW : List Str := ["folders", "copies", "name", "having", "names", "owners", "owner"]
theorem scWi : FnScope NW ["folders", "copies", "name", "having"] (defScope sWin) := ⟨rfl, rfl, rfl, by decide +kernel, rfl, by decide +kernel, by decide +kernel⟩
theorem ok_win {f : Addr} {fd : FuncData} (F : Fun K "winner" "winner" sWin f fd) (B : Bl mg) (DL : Has P w K mg base CX0 6 "list_of" ["folders", "copies", "name"] (spList K)) (DS : Has P w K mg base CX0 3 "are_some_of" ["value", "folders"] (spSome K)) :
    FnOk P w K mg base CX0 7 f fd ["folders", "copies", "name", "having"] (spWin K) := by
  refine F.ok scWi (fun vs H Q E h => ?_) (fun cdv A outer s H vs Q E hr h => ?_)
  · obtain ⟨j, a, p, o, ys, ow, cs, y, rfl, _⟩ := h
    rfl
  · obtain ⟨j, a, p, o, ys, ow, cs, y, rfl, hy, FO, SC, ha, aj, Dp, ho, OW, q⟩ := h
    refine ⟨_, pss_cons (ps_set (i := 4) scWi.nd rfl (.inl rfl) (pe_has DL hr pass0 (pa_cons (pv 0) (pa_cons (pv 1) (pa_cons (pv 2) pa_nil)))))
      (pss_cons (ps_if (pt_not (pt_val (pe_has DS hr pass0 (pa_cons (pv 3) (pa_cons (pv 0) pa_nil))))) (pss_one ps_dead) pss_nil)
      (pss_cons (ps_setLc (i := 5) (own := [("owner", 6)]) (tt := tTest (tOp (rIn K false) (tVar 6) (tVar 3))) (te := tVar 6) rfl scWi.nd rfl rfl (sw_true rfl rfl rfl (by decide +kernel)) (pi_list (pv 4)) (blkOk_by (N := NW) (sc := defScope sWin) (by decide +kernel))
        (fun _ _ _ _ _ => pg_name (i := 6) scWi.nd rfl (.inl rfl)) (fun _ _ _ _ _ => pts_one (pt_cmpR op_in_seq (pv 6) (pv 3) rfl)) (fun _ _ _ _ _ => pv 6))
      (pss_one (ps_ret (pe_ifExp (pt_truth (pv 5) (fun _ => rfl)) (pe_ix ix_list (pv 5) pe_int (fun _ _ => rfl)) pe_non))))), ?_⟩
    refine ⟨_, rfl, _, rfl, _, rfl, j, a, p, ys, cs, y, rfl, hy, FO, SC, ha, aj, Dp, fun r H1 fr hr1 e1 => ?_⟩
    refine ⟨_, rfl, _, rfl, o, a, ow, ys, rfl, same_t e1 ho, same_t e1 ha, OW, FO.hi, fun H2 e2 => ⟨_, rfl, ?_⟩⟩
    show if (!true) = true then _ else _
    have hr2 := e2 _ _ hr1
    have e02 := e1.trans e2
    have rl : (runR cs y).length ≤ 20 := by have := (rok_run (ys := ys) SC.ok y hy).len; have := FO.hi; omega
    generalize hl : runR cs y = l at hr2 rl q
    refine ⟨_, rfl, r, rfl, ⟨_, sqOf0 hr2⟩, fun D nD => ?_⟩
    refine lc_it (walk_list (xs := l.map V.str)) (fun i H' => H' D = some (.lst (((l.take i).filter fun y => decide (y ∈ ow)).map V.str)) ∧ Same H2 H') ⟨upd_same, same_new nD⟩ (fun i H' _ h => sqOf0 (h.2 _ _ hr2)) ?_ ?_
    · rintro i x H3 H4 hi ⟨hD, e3⟩ ⟨rfl, hc⟩
      obtain ⟨y, hy, rfl⟩ := strs_at hc
      rw [List.length_map] at hi
      have e9 := take_filter (fun y => decide (y ∈ ow)) hy
      refine ⟨rfl, _, rfl, _, rfl, o, _, rfl, .inr (same_t (e02.trans e3) ho), rfl, flat_strs ow, _, rfl, ?_⟩
      show if inV (.str y) (ow.map V.str) = true then _ else _
      rw [inV_strs]
      refine ite2 (fun k => ?_) (fun k => ?_)
      · refine ⟨_, rfl, _, hD, ?_, ?_, same_up e3 nD⟩
        · rw [List.length_map]
          exact Nat.lt_of_le_of_lt (List.length_filter_le _ _) (Nat.lt_of_le_of_lt (List.length_take_le _ _) (small1000 (by omega)))
        · rw [upd_same, e9, if_pos k, List.map_append]
          rfl
      · refine ⟨?_, e3⟩
        rw [hD, e9, if_neg k, List.append_nil]
    rintro H3 ⟨hD, e3⟩
    rw [List.take_of_length_le (by rw [List.length_map]; exact Nat.le_refl _)] at hD
    have hf : own1 ow l = (l.filter fun y => decide (y ∈ ow)).head? := List.head?_filter.symm
    have qq : ∀ v, v = oV (own1 ow l) → Q v H3 := fun v e => by rw [e]; exact q H3 (e02.trans e3)
    refine ⟨_, rfl, _, .inl ⟨_, sqOf0 hD, rfl⟩, ?_⟩
    generalize (l.filter fun y => decide (y ∈ ow)) = fl at hD hf ⊢
    cases fl with
    | nil => exact qq _ (by rw [hf]; rfl)
    | cons x xs =>
      show if (!false) = true then _ else _
      refine ⟨_, rfl, D, _, 0, .str x, rfl, rfl, sqOf0 hD, atI_nat (j := 0) rfl, ?_⟩
      exact qq _ (by rw [hf]; rfl)
end
end Cv

/-! part K11FR -/
set_option maxRecDepth 100000
set_option maxHeartbeats 4000000
namespace Cv
open PySem PySem.Spec PyProof.Rows L2
theorem take_one {α : Type} {xs : List α} {i : Nat} {x : α} (h : xs[i]? = some x) : xs.take (i + 1) = xs.take i ++ [x] := by
  rw [List.take_add_one, h]
  rfl
theorem get_mem : ∀ {fs : Fs} {p : Str × Str}, (fs.map (·.1)).Nodup → p ∈ fs → getF fs p.1 = some p.2
  | q :: r, p, nd, hp => by
    obtain ⟨n1, n2⟩ := List.nodup_cons.mp nd
    show (if q.1 = p.1 then some q.2 else getF r p.1) = _
    rcases List.mem_cons.mp hp with m | m
    · rw [m, if_pos rfl]
    · rw [if_neg (fun e => n1 (by show q.1 ∈ _; rw [e]; exact List.mem_map.mpr ⟨p, m, rfl⟩)), get_mem n2 m]
theorem get_some {fs : Fs} {k : Str} : (getF fs k).isSome = decide (k ∈ fs.map (·.1)) := by
  cases h : getF fs k with
  | none => rw [decide_eq_false (getF_none.mp h)]; rfl
  | some v => rw [decide_eq_true (by
      by_cases m : k ∈ fs.map (·.1)
      · exact m
      · rw [getF_none.mpr m] at h; cases h)]; rfl
theorem srt_get {fs gs : Fs} (s : IsSrt fs gs) (k : Str) : getF gs k = getF fs k := by
  obtain ⟨ks, pk, sk, rfl⟩ := s
  have key : ∀ l : List Str, getF (l.map fun k => (k, (getF fs k).getD Str.empty)) k = if k ∈ l then some ((getF fs k).getD Str.empty) else none := by
    intro l
    induction l with
    | nil => rfl
    | cons y l ih =>
      show (if y = k then some ((getF fs y).getD Str.empty) else getF (l.map fun k => (k, (getF fs k).getD Str.empty)) k) = _
      by_cases e : y = k
      · rw [if_pos e, if_pos (by rw [e]; exact List.mem_cons_self), e]
      · rw [if_neg e, ih]
        by_cases m : k ∈ l
        · rw [if_pos m, if_pos (List.mem_cons_of_mem _ m)]
        · rw [if_neg m, if_neg (fun z => by rcases List.mem_cons.mp z with z | z; exact e z.symm; exact m z)]
  rw [key]
  by_cases m : k ∈ ks
  · rw [if_pos m]
    cases h : getF fs k with
    | none => exact absurd (pk.mem_iff.mp m) (getF_none.mp h)
    | some v => rfl
  · rw [if_neg m, getF_none.mpr (fun z => m (pk.mem_iff.mpr z))]
theorem bind_or {α β : Type} {f : α → Option β} {a b : Option α} (h : ∀ x, a = some x → (f x).isSome = true) : (a.or b).bind f = (a.bind f).or (b.bind f) := by
  cases a with
  | none => rfl
  | some x =>
    have := h x rfl
    show f x = (f x).or _
    cases e : f x with
    | none => rw [e] at this; cases this
    | some y => rfl
/-- whose file is where -/
theorem own_run {PT ys : List Str} {F : Str → Fs} (k : Str) : ∀ {cs : List Cp} {G : Str → Fs} {R : Str → List Str}, AllOk PT ys G → (∀ c ∈ cs, CpOk ys c) →
    (∀ y ∈ ys, getF (G y) k = (own1 (ys.filter fun y => decide (k ∈ (F y).map (·.1))) (R y)).bind fun b => getF (F b) k) →
    ∀ y ∈ ys, getF (runF cs G y) k = (own1 (ys.filter fun y => decide (k ∈ (F y).map (·.1))) (cs.foldl stepR R y)).bind fun b => getF (F b) k
  | [], _, _, _, _, h => h
  | c :: cs, G, R, hG, hc, h => by
    have ck := hc c List.mem_cons_self
    refine own_run (cs := cs) (G := stepF G c) (R := stepR R c) k (allok_F hG ck) (fun d hd => hc d (List.mem_cons_of_mem _ hd)) fun y hy => ?_
    have some_of : ∀ {l : List Str} {b : Str}, own1 (ys.filter fun y => decide (k ∈ (F y).map (·.1))) l = some b → (getF (F b) k).isSome = true := fun {l b} e => by
      have := List.find?_some e
      have m := (List.mem_filter.mp (of_decide_eq_true this)).2
      rw [get_some]
      exact m
    show getF (if y = c.2.2 then (if c.1 = Str.ofString "over" then jn (G c.2.2) (G c.2.1) else jn (G c.2.1) (G c.2.2)) else G y) k = _
    unfold stepR
    by_cases w : c.1 = Str.ofString "over"
    · rw [if_pos w, if_pos w]
      show _ = (own1 _ (if y = c.2.2 then jb (R c.2.1) (R c.2.2) else R y)).bind _
      by_cases z : y = c.2.2
      · rw [if_pos z, if_pos z, own_jb, bind_or (fun x e => some_of e), jn_get (hG _ ck.a).nd, h _ ck.a, h _ ck.b]
      · rw [if_neg z, if_neg z]
        exact h y hy
    · rw [if_neg w, if_neg w]
      show _ = (own1 _ (if y = c.2.2 then jb (R c.2.2) (R c.2.1) else R y)).bind _
      by_cases z : y = c.2.2
      · rw [if_pos z, if_pos z, own_jb, bind_or (fun x e => some_of e), jn_get (hG _ ck.b).nd, h _ ck.a, h _ ck.b]
      · rw [if_neg z, if_neg z]
        exact h y hy
theorem own_files {PT ys : List Str} {F : Str → Fs} {cs : List Cp} (k : Str) (AO : AllOk PT ys F) (hc : ∀ c ∈ cs, CpOk ys c) : ∀ y ∈ ys, getF (runF cs F y) k = (own1 (ys.filter fun y => decide (k ∈ (F y).map (·.1))) (runR cs y)).bind fun b => getF (F b) k := by
  refine own_run (R := fun y => [y]) k AO hc fun y hy => ?_
  unfold own1
  by_cases m : k ∈ (F y).map (·.1)
  · rw [List.find?_cons_of_pos (by exact decide_eq_true (List.mem_filter.mpr ⟨hy, decide_eq_true m⟩))]
    rfl
  · rw [List.find?_cons_of_neg (by rw [decide_eq_true_eq]; exact fun z => m (of_decide_eq_true (List.mem_filter.mp z).2)), getF_none.mpr m]
    rfl
def Src (Pr : Str → Prop) (ys : List Str) (F : Str → Fs) : Prop := ∀ y ∈ ys, ∀ k, (getF (F y) k).isSome = true → Pr k
theorem or_some {α : Type} {a b : Option α} (h : (a.or b).isSome = true) : a.isSome = true ∨ b.isSome = true := by
  cases a with
  | none => exact .inr h
  | some x => exact .inl rfl
theorem src_run {Pr : Str → Prop} {PT ys : List Str} : ∀ {cs : List Cp} {F : Str → Fs}, AllOk PT ys F → (∀ c ∈ cs, CpOk ys c) → Src Pr ys F → Src Pr ys (runF cs F)
  | [], _, _, _, h => h
  | c :: cs, F, hF, hc, h => by
    have ck := hc c List.mem_cons_self
    refine src_run (cs := cs) (F := stepF F c) (allok_F hF ck) (fun d hd => hc d (List.mem_cons_of_mem _ hd)) fun y hy k e => ?_
    have e2 : (getF (if y = c.2.2 then (if c.1 = Str.ofString "over" then jn (F c.2.2) (F c.2.1) else jn (F c.2.1) (F c.2.2)) else F y) k).isSome = true := e
    by_cases z : y = c.2.2
    · rw [if_pos z] at e2
      by_cases w : c.1 = Str.ofString "over"
      · rw [if_pos w, jn_get (hF _ ck.a).nd] at e2
        exact (or_some e2).elim (h _ ck.a k) (h _ ck.b k)
      · rw [if_neg w, jn_get (hF _ ck.b).nd] at e2
        exact (or_some e2).elim (h _ ck.b k) (h _ ck.a k)
    · rw [if_neg z] at e2
      exact h y hy k e2
theorem get_kv {fs : Fs} {k : Str} : (valV (kvF fs) (Sum.inr k)).getD .non = oV (getF fs k) := by
  rw [kvF_val]
  cases getF fs k <;> rfl
def spFr (K : PySem.W.Frag) : Sp := fun vs H Q _ => ∃ (j c p : Addr) (oj : HO) (ys PT : List Str) (ad : Str → Addr) (F : Str → Fs) (cs : List Cp), vs = [.ref c, .ref p] ∧ H j = some oj ∧ ConAt H c ys ad F ∧ ConOk ys F ∧ PT.length ≤ 40 ∧ AllOk PT ys F ∧ Scr ys cs ∧ Dx K H j (.ref p) (planD cs) ∧ ∀ H', Same H H' → Q (.bl true) H'
section
variable {P : Program} {w : World} {K : PySem.W.Frag} {mg : Str → Option Value} {base : Heap}
abbrev NFr : List Str := ["contents_here", "plan", "names_here", "found", "paths", "files", "path_here", "one", "owners", "best", "due"]
theorem scFr : FnScope NFr ["contents_here", "plan"] (defScope sFilesR) := ⟨rfl, rfl, rfl, by decide +kernel, rfl, by decide +kernel, by decide +kernel⟩
theorem ok_filesR {f : Addr} {fd : FuncData} (F : Fun K "_law_files_right" "_law_files_right" sFilesR f fd) (B : Bl mg) (DR : Has P w K mg base CX0 5 "run" ["contents", "copies"] (spRun K)) (DW : Has P w K mg base CX0 7 "winner" ["folders", "copies", "name", "having"] (spWin K)) :
    FnOk P w K mg base CX0 8 f fd ["contents_here", "plan"] (spFr K) := by
  refine F.ok scFr (fun vs H Q E h => ?_) (fun cdv A outer s H vs Q E hr h => ?_)
  · obtain ⟨j, c, p, oj, ys, PT, ad, F, cs, rfl, _⟩ := h
    rfl
  · obtain ⟨j, c, p, oj, ys, PT, ad, FF, cs, rfl, hj, CA, CO, p40, AO, SC, Dp, q⟩ := h
    refine ⟨_, pss_cons (ps_par (i := 2) (j := 3) rfl scFr.nd rfl rfl (by decide) rfl rfl (pa_cons (pe_callTy (call_tupD rfl) (by rfl) B.tuple (by decide +kernel) (pa_cons (pv 0) pa_nil)) (pa_cons (pe_has DR hr pass0 (pa_cons (pv 0) (pa_cons (pv 1) pa_nil))) pa_nil)) rfl)
      (pss_cons (ps_set (i := 4) scFr.nd rfl (.inr rfl) (pe_lst pa_nil))
      (pss_cons (ps_lock (ps_for PassesOwn.never rfl (pi_values (pv 0)) (pg_name (i := 5) scFr.nd rfl (.inl rfl))
        (pss_one (ps_set (i := 4) scFr.nd rfl (.inr rfl) (pe_sortSet rfl (by rfl) B.sorted (by rfl) B.set (pe_op op_cat (pv 4) (pe_callTy (call_listD rfl) (by rfl) B.list (by decide +kernel) (pa_cons (pv 5) pa_nil))))))))
      (pss_cons (ps_for PassesOwn.never rfl (pi_list (pv 4)) (pg_name (i := 6) scFr.nd rfl (.inr rfl))
        (pss_cons (ps_set (i := 8) scFr.nd rfl (.inl rfl) (pe_callTy call_tuple_of (by rfl) B.tuple (by decide +kernel) (pa_cons (pe_lc (own := [("one", 7)]) (tt := tB (tDIn (tVar 6) (tDGet (tVar 0) (tVar 7)))) (te := tVar 7) rfl scFr.nd (pi_tup (pv 2)) (blkOk_by (N := NFr) (sc := defScope sFilesR) (by decide +kernel))
            (fun _ _ _ _ _ => pg_name (i := 7) scFr.nd rfl (.inl rfl)) (fun _ _ _ _ _ => pts_one (pt_cmp (pc_din (hu1 hr) (pv 6) (pe_dget (hu1 hr) (pv 0) (pv 7) (fun _ _ => rfl))))) (fun _ _ _ _ _ => pv 7)) pa_nil)))
        (pss_one (ps_for PassesOwn.never rfl (pi_tup (pv 2)) (pg_name (i := 7) scFr.nd rfl (.inl rfl))
          (pss_cons (ps_set (i := 9) scFr.nd rfl (.inl rfl) (pe_has DW hr pass0 (pa_cons (pv 2) (pa_cons (pv 1) (pa_cons (pv 7) (pa_cons (pv 8) pa_nil))))))
          (C8.pss_cut (ps_set (i := 10) scFr.nd rfl (.inl rfl) (pe_ifExp (pt_cmpR op_notN (pv 9) pe_non (nomark _)) (pe_dget1 (hu1 hr) (pe_dget (hu1 hr) (pv 0) (pv 9) (fun _ _ => rfl)) (pv 6) ⟨rfl, rfl, rfl, rfl⟩) pe_non))
          (pss_one (ps_if (PW.pt (pw_or (pt_cmpR op_ne (pe_dget1 (hu1 hr) (pe_dget (hu1 hr) (pv 3) (pv 7) (fun _ _ => rfl)) (pv 6) ⟨rfl, rfl, rfl, rfl⟩) (pv 10) (nomark _))
            (pw_or1 (pt_cmpR op_ne (pe_cmp (pc_din (hu1 hr) (pv 6) (pe_dget (hu1 hr) (pv 3) (pv 7) (fun _ _ => rfl)))) (pe_cmpR op_notN (pv 9) pe_non (nomark _)) (nomark _))))) (pss_one (ps_ret pe_bl)) pss_nil))))))))
      (pss_cons (ps_lock (ps_for PassesOwn.never rfl (pi_values (pv 3)) (pg_name (i := 5) scFr.nd rfl (.inl rfl))
        (pss_one (ps_if (pt_cmpR (op_neL (hu_of' hr)) (pe_lock (pe_lc (own := [("path_here", 6)]) (tt := tTest (tOp (rIn K true) (tVar 6) (tVar 4))) (te := tVar 6) rfl scFr.nd (pi_keys (pv 5)) (blkOk_by (N := NFr) (sc := defScope sFilesR) (by decide +kernel))
            (fun _ _ _ _ _ => pg_name (i := 6) scFr.nd rfl (.inl rfl)) (fun _ _ _ _ _ => pts_one (pt_cmpR op_notIn_seq (pv 6) (pv 4) rfl)) (fun _ _ _ _ _ => pv 6))) (pe_lst pa_nil) (nomark _)) (pss_one (ps_ret pe_bl)) pss_nil))))
      (pss_one (ps_ret pe_bl)))))), ?_⟩
    have FO := CO.fo
    have y20 := FO.hi
    have keyS : ∀ fs : Fs, ((kvF fs).map fun kv => kV kv.1) = (fs.map (·.1)).map V.str := fun fs => by rw [List.map_map, List.map_map]; rfl
    -- names_here, found
    refine ⟨_, rfl, c, kvR ys ad, rfl, .inl CA.at_, fun a na => ?_⟩
    have ha1 : upd H a (.tup ((kvR ys ad).map fun kv => kV kv.1)) a = some (.tup (ys.map V.str)) := by rw [upd_same, List.map_map]; rfl
    have e1 : Same H (upd H a (.tup ((kvR ys ad).map fun kv => kV kv.1))) := same_new na
    have aj : a ≠ j := (ne_of_none hj na).symm
    generalize upd H a (.tup ((kvR ys ad).map fun kv => kV kv.1)) = H1 at ha1 e1 ⊢
    refine ⟨_, rfl, _, rfl, j, c, p, ys, PT, ad, FF, cs, rfl, CA.same e1, CO, p40, AO, SC, Dp.same e1, fun d ks ad2 G H2 pm so SG RA e2 => ⟨_, _, rfl, ?_⟩⟩
    have e02 := e1.trans e2
    have ha2 := e2 _ _ ha1
    have GG : ∀ y ∈ ys, ∀ k, getF (G y) k = getF (runF cs FF y) k := fun y hy k => srt_get (SG y (pm.mem_iff.mpr hy)) k
    have mk : ∀ {y : Str}, y ∈ ys → y ∈ ks := fun h => pm.mem_iff.mpr h
    -- paths
    refine ⟨by show 0 ≤ sizeLine; decide, fun P0 nP0 => ?_⟩
    have e3 : Same H2 (upd H2 P0 (.lst [])) := same_new nP0
    have hP0 : upd H2 P0 (.lst []) P0 = some (.lst []) := upd_same
    have e03 := e02.trans e3
    have RA3 := RA.same e3
    have ha3 := e3 _ _ ha2
    show tSeq _ _ _ _ (upd H2 P0 (.lst []))
    generalize upd H2 P0 (.lst []) = H3 at hP0 e03 RA3 ha3 ⊢
    clear RA e3
    refine ⟨c, _, e03 _ _ CA.at_, trivial, fun od => ?_⟩
    have fz : upd H3 c (.frz od (.dK (kvR ys ad))) c = some (.frz od (.dK (kvR ys ad))) := upd_same
    have g4 : ∀ b o, b ≠ c → H3 b = some o → upd H3 c (.frz od (.dK (kvR ys ad))) b = some o := fun b o n e => (upd_ne n).trans e
    have Pc : P0 ≠ c := fun z => by have := e03 _ _ CA.at_; rw [← z, hP0] at this; cases this
    generalize upd H3 c (.frz od (.dK (kvR ys ad))) = H4 at fz g4 ⊢
    refine ⟨_, rfl, c, od, _, rfl, fz, ?_⟩
    refine for_it (walk_values (kvs := kvR ys ad)) (fun i σ H' => ∃ x5 Pk ps, σ = [some (.ref c), some (.ref p), some (.ref a), some (.ref d), some (.ref Pk), x5, none, none, none, none, none] ∧ H' Pk = some (.lst (ps.map V.str)) ∧ Pk ≠ c ∧ ps.Nodup ∧ (∀ k, k ∈ ps ↔ ∃ y ∈ ys.take i, k ∈ (FF y).map (·.1)) ∧ Same H4 H')
      ⟨_, P0, [], rfl, g4 _ _ Pc hP0, Pc, List.nodup_nil, (fun k => ⟨(fun h => nomatch h), (fun ⟨_, h, _⟩ => nomatch h)⟩), Same.refl _⟩ (fun i σ H' _ h => by obtain ⟨_, _, _, _, _, _, _, _, h⟩ := h; exact h _ _ fz) ?_ ?_
    · rintro i x σ H5 H6 hi ⟨x5, Pk, ps, rfl, hP, nc, nd, mem, e5⟩ ⟨rfl, kk, hkv⟩
      rw [List.getElem?_map] at hkv
      obtain ⟨y, hy, rfl⟩ : ∃ y, ys[i]? = some y ∧ x = .ref (ad y) := by
        cases h : ys[i]? with
        | none => rw [h] at hkv; cases hkv
        | some y => rw [h] at hkv; cases hkv; exact ⟨y, rfl, rfl⟩
      have my := List.mem_of_getElem? hy
      have hf := e5 _ _ (g4 _ _ (CA.ne y my) (e03 _ _ (CA.files y my)))
      refine ⟨_, rfl, _, rfl, ad y, kvF (FF y), rfl, .inl hf, fun p1 n1 => ?_⟩
      rw [keyS]
      have e7 : Same H6 (upd H6 p1 (.lst (((FF y).map (·.1)).map V.str))) := same_new n1
      have hp1 : upd H6 p1 (.lst (((FF y).map (·.1)).map V.str)) p1 = some (.lst (((FF y).map (·.1)).map V.str)) := upd_same
      generalize upd H6 p1 (.lst (((FF y).map (·.1)).map V.str)) = H7 at e7 hp1 ⊢
      have lps : ps.length ≤ 40 := Nat.le_trans (nodup_sub_len (ys := PT) nd fun k hk => by
        obtain ⟨z, hz, hk2⟩ := (mem k).mp hk
        exact (AO z (List.mem_of_mem_take hz)).sub k hk2) p40
      have lfs : ((FF y).map (·.1)).length ≤ 40 := by rw [List.length_map]; exact (CO.fi y my).le
      refine ⟨Pk, p1, ps.map V.str, ((FF y).map (·.1)).map V.str, rfl, rfl, e7 _ _ hP, hp1, Nat.le_trans (show (ps.map V.str).length + (((FF y).map (·.1)).map V.str).length ≤ 1000 by rw [List.length_map, List.length_map]; omega) (by decide), fun p2 n2 => ?_⟩
      have e8 : Same H7 (upd H7 p2 (.lst (ps.map V.str ++ ((FF y).map (·.1)).map V.str))) := same_new n2
      have hp2 : upd H7 p2 (.lst (ps.map V.str ++ ((FF y).map (·.1)).map V.str)) p2 = some (.lst ((ps ++ (FF y).map (·.1)).map V.str)) := by rw [upd_same, List.map_append]
      generalize upd H7 p2 (.lst (ps.map V.str ++ ((FF y).map (·.1)).map V.str)) = H8 at e8 hp2 ⊢
      refine ⟨p2, _, rfl, .inr (sqOf0 hp2), by rw [List.length_append]; omega, fun zs p3 znd zm le so3 n3 => ?_⟩
      have e9 : Same H8 (upd H8 p3 (.lst (zs.map V.str))) := same_new n3
      have e59 := e5.trans (e7.trans (e8.trans e9))
      refine ⟨_, p3, zs, rfl, upd_same, fun z => ?_, znd, fun k => ?_, e59⟩
      · have := (e7.trans e8) _ _ (e5 _ _ fz)
        rw [← z, n3] at this
        cases this
      · rw [zm k, List.mem_append, mem k, take_one hy]
        constructor
        · rintro (⟨z, hz, h⟩ | h)
          · exact ⟨z, List.mem_append.mpr (.inl hz), h⟩
          · exact ⟨y, List.mem_append.mpr (.inr List.mem_cons_self), h⟩
        · rintro ⟨z, hz, h⟩
          rcases List.mem_append.mp hz with m | m
          · exact .inl ⟨z, m, h⟩
          · rw [List.mem_singleton.mp m] at h
            exact .inr h
    rintro σ H5 ⟨x5, P, ps, rfl, hP, nc, nd, mem, e5⟩
    rw [List.length_map, List.take_of_length_le (Nat.le_refl _)] at mem
    have fz5 := e5 _ _ fz
    refine ⟨fz5, ?_⟩
    have e36 : Same H3 (upd H5 c (.dK (kvR ys ad))) := fun b o e => by
      by_cases z : b = c
      · rw [z, upd_same]
        rw [z, e03 _ _ CA.at_] at e
        exact e
      · exact (upd_ne z).trans (e5 _ _ (g4 b o z e))
    have hP6 : upd H5 c (.dK (kvR ys ad)) P = some (.lst (ps.map V.str)) := (upd_ne nc).trans hP
    clear fz5 hP e5 fz g4
    generalize upd H5 c (.dK (kvR ys ad)) = H6 at e36 hP6 ⊢
    have e06 := e03.trans e36
    have ha6 := e36 _ _ ha3
    have RA6 := RA3.same e36
    have CA6 := CA.same e06
    have Dp6 := Dp.same e06
    have lps : ps.length ≤ 40 := Nat.le_trans (nodup_sub_len (ys := PT) nd fun k hk => by
      obtain ⟨z, hz, hk2⟩ := (mem k).mp hk
      exact (AO z hz).sub k hk2) p40
    have gC : ∀ {H' : Hp} {y : Str}, Same H6 H' → y ∈ ys → DGet H' c (.str y) (some (.ref (ad y))) := fun e hy => kv_val (ad := ad) hy ▸ DGet.k (k := .inr _) (e _ _ CA6.at_)
    have gD : ∀ {H' : Hp} {y : Str}, Same H6 H' → y ∈ ys → DGet H' d (.str y) (some (.ref (ad2 y))) := fun e hy => kv_val (ad := ad2) (mk hy) ▸ DGet.k (k := .inr _) (e _ _ RA6.at_)
    -- each path
    refine ⟨_, rfl, P, rfl, ⟨_, sqOf0 hP6⟩, ?_⟩
    refine for_list (xs := ps.map V.str) (fun i σ H' => ∃ x5 x6 x7 x8 x9 x10, σ = [some (.ref c), some (.ref p), some (.ref a), some (.ref d), some (.ref P), x5, x6, x7, x8, x9, x10] ∧ Same H6 H') ⟨_, _, _, _, _, _, rfl, Same.refl _⟩ (fun i σ H' _ h => by obtain ⟨_, _, _, _, _, _, _, h⟩ := h; exact sqOf0 (h _ _ hP6)) ?_ ?_
    · rintro i x σ H7 hx ⟨x5, x6, x7, x8, x9, x10, rfl, e7⟩
      obtain ⟨k, hk, rfl⟩ := strs_at hx
      -- owners
      refine ⟨_, rfl, a, rfl, ⟨_, stOf0 (e7 _ _ ha6)⟩, fun D nD => ?_⟩
      refine lc_it (walk_tup (xs := ys.map V.str)) (fun n H' => H' D = some (.lst (((ys.take n).filter fun y => decide (k ∈ (FF y).map (·.1))).map V.str)) ∧ Same H7 H') ⟨upd_same, same_new nD⟩ (fun n H' _ h => stOf0 ((e7.trans h.2) _ _ ha6)) ?_ ?_
      · rintro n y' H8 H9 hn ⟨hD, e8⟩ ⟨rfl, hy'⟩
        obtain ⟨y, hy, rfl⟩ := strs_at hy'
        have my := List.mem_of_getElem? hy
        rw [List.length_map] at hn
        have e68 := e7.trans e8
        refine ⟨rfl, _, rfl, _, rfl, _, rfl, c, _, rfl, gC e68 my, ad y, _, rfl, DGet.k (k := .inr k) (e68 _ _ (CA6.files y my)), _, rfl, ?_⟩
        rw [kvF_val, Option.isSome_map, get_some]
        have e9 := take_filter (fun y => decide (k ∈ (FF y).map (·.1))) hy
        refine ite2 (fun g => ?_) (fun g => ?_)
        · refine ⟨_, rfl, _, hD, ?_, ?_, same_up e8 nD⟩
          · rw [List.length_map]
            exact Nat.lt_of_le_of_lt (List.length_filter_le _ _) (Nat.lt_of_le_of_lt (List.length_take_le _ _) (small1000 (by omega)))
          · rw [upd_same, e9, if_pos g, List.map_append]
            rfl
        · refine ⟨?_, e8⟩
          rw [hD, e9, if_neg g, List.append_nil]
      rintro H8 ⟨hD, e8⟩
      rw [List.length_map, List.take_of_length_le (Nat.le_refl _)] at hD
      have OF := fun y hy => own_files (cs := cs) k AO SC.ok y hy
      have OW : Ow ys (ys.filter fun y => decide (k ∈ (FF y).map (·.1))) := ⟨FO.nd.sublist List.filter_sublist, fun y hy => (List.mem_filter.mp hy).1⟩
      have OK : ∀ {l : List Str} {b : Str}, own1 (ys.filter fun y => decide (k ∈ (FF y).map (·.1))) l = some b → b ∈ ys ∧ (getF (FF b) k).isSome = true := fun {l b} e => by
        have := List.find?_some e
        have m := List.mem_filter.mp (of_decide_eq_true this)
        rw [get_some]
        exact m
      generalize (ys.filter fun y => decide (k ∈ (FF y).map (·.1))) = ow at hD OF OW OK
      refine ⟨D, _, rfl, .inl ⟨sqOf0 hD, fun o no => ?_⟩⟩
      have e9 : Same H8 (upd H8 o (.tup (ow.map V.str))) := same_new no
      have ho : upd H8 o (.tup (ow.map V.str)) o = some (.tup (ow.map V.str)) := upd_same
      generalize upd H8 o (.tup (ow.map V.str)) = H9 at e9 ho ⊢
      have e69 := e7.trans (e8.trans e9)
      refine ⟨_, rfl, a, rfl, ⟨_, stOf0 (e69 _ _ ha6)⟩, ?_⟩
      refine for_tup (xs := ys.map V.str) (fun n σ H' => ∃ x7 x9 x10, σ = [some (.ref c), some (.ref p), some (.ref a), some (.ref d), some (.ref P), x5, some (.str k), x7, some (.ref o), x9, x10] ∧ Same H9 H') ⟨_, _, _, rfl, Same.refl _⟩ (fun n σ H' _ h => by obtain ⟨_, _, _, _, h⟩ := h; exact stOf0 ((e69.trans h) _ _ ha6)) ?_ ?_
      · rintro n y' σ H10 hy' ⟨x7, x9, x10, rfl, e10⟩
        obtain ⟨y, hy, rfl⟩ := strs_at hy'
        have my := List.mem_of_getElem? hy
        have e610 := e69.trans e10
        refine ⟨_, rfl, _, rfl, _, rfl, _, rfl, j, a, p, o, ys, ow, cs, y, rfl, my, FO, SC, stOf0 (e610 _ _ ha6), aj, Dp6.same e610, stOf0 (e10 _ _ ho), OW, fun H11 e11 => ?_⟩
        have e611 := e610.trans e11
        have of1 := OF y my
        have gg := GG y my k
        have ok1 : ∀ {b : Str}, own1 ow (runR cs y) = some b → b ∈ ys ∧ (getF (FF b) k).isSome = true := fun e => OK e
        generalize own1 ow (runR cs y) = bo at of1 ok1 ⊢
        refine ⟨fun σ' H' => σ' = [some (.ref c), some (.ref p), some (.ref a), some (.ref d), some (.ref P), x5, some (.str k), some (.str y), some (.ref o), some (oV bo), some (oV (bo.bind fun b => getF (FF b) k))] ∧ H' = H11, ?_, ?_⟩
        · refine ⟨_, rfl, rfl, _, rfl, ?_⟩
          cases bo with
          | none => exact ⟨rfl, rfl⟩
          | some b =>
            obtain ⟨mb, _⟩ := ok1 rfl
            refine ⟨_, rfl, _, rfl, c, _, rfl, gC e611 mb, ad b, rfl, .inl ⟨_, .inl (e611 _ _ (CA6.files b mb))⟩, _, rfl, _, DGet.k (k := .inr k) (e611 _ _ (CA6.files b mb)), ?_⟩
            rw [get_kv]
            exact ⟨rfl, rfl⟩
        rintro σ H' ⟨rfl, rfl⟩
        rw [of1] at gg
        have my2 := mk my
        refine ⟨_, rfl, _, rfl, d, _, rfl, gD e611 my, ad2 y, rfl, .inl ⟨_, .inl (e611 _ _ (RA6.files y my2))⟩, _, rfl, _, DGet.k (k := .inr k) (e611 _ _ (RA6.files y my2)), _, rfl, ?_⟩
        rw [get_kv, gg]
        refine ⟨scal_oV _ _, _, rfl, ?_⟩
        rw [decide_eq_true rfl]
        show if (!true) = true then _ else _
        refine ⟨_, rfl, _, rfl, _, rfl, d, _, rfl, gD e611 my, ad2 y, _, rfl, DGet.k (k := .inr k) (e611 _ _ (RA6.files y my2)), ?_⟩
        rw [kvF_val, Option.isSome_map, gg]
        refine ⟨_, rfl, rfl, rfl, _, rfl, ?_⟩
        have ev : (V.bl (bo.bind fun b => getF (FF b) k).isSome = V.bl (!decide (oV bo = V.non))) := by
          rw [oV_non]
          cases bo with
          | none => rfl
          | some b => exact congrArg V.bl (ok1 rfl).2
        rw [decide_eq_true ev]
        show if (!true) = true then _ else _
        exact ⟨_, _, _, rfl, e10.trans e11⟩
      · rintro σ H10 ⟨x7, x9, x10, rfl, e10⟩
        exact ⟨_, _, _, _, _, _, rfl, e69.trans e10⟩
    rintro σ H7 ⟨x5, x6, x7, x8, x9, x10, rfl, e7⟩
    -- no other path
    have RA7 := RA6.same e7
    have hP7 := e7 _ _ hP6
    have e07 := e06.trans e7
    refine ⟨d, _, RA7.at_, trivial, fun od2 => ?_⟩
    have fz8 : upd H7 d (.frz od2 (.dK (kvR ks ad2))) d = some (.frz od2 (.dK (kvR ks ad2))) := upd_same
    have g8 : ∀ b o, b ≠ d → H7 b = some o → upd H7 d (.frz od2 (.dK (kvR ks ad2))) b = some o := fun b o n e => (upd_ne n).trans e
    have Pd : P ≠ d := fun z => by rw [z, RA7.at_] at hP7; cases hP7
    have e08 : Same H (upd H7 d (.frz od2 (.dK (kvR ks ad2)))) := same_up e07 (e1.free RA7.fd)
    generalize upd H7 d (.frz od2 (.dK (kvR ks ad2))) = H8 at fz8 g8 e08 ⊢
    refine ⟨_, rfl, d, od2, _, rfl, fz8, ?_⟩
    refine for_it (walk_values (kvs := kvR ks ad2)) (fun i σ H' => (∃ x5, σ = [some (.ref c), some (.ref p), some (.ref a), some (.ref d), some (.ref P), x5, x6, x7, x8, x9, x10]) ∧ Same H8 H') ⟨⟨_, rfl⟩, Same.refl _⟩ (fun i σ H' _ h => h.2 _ _ fz8) ?_ ?_
    · rintro i x σ H9 H10 hi ⟨⟨x5, rfl⟩, e9⟩ ⟨rfl, kk, hkv⟩
      rw [List.getElem?_map] at hkv
      obtain ⟨y, hy, rfl⟩ : ∃ y, ks[i]? = some y ∧ x = .ref (ad2 y) := by
        cases h : ks[i]? with
        | none => rw [h] at hkv; cases hkv
        | some y => rw [h] at hkv; cases hkv; exact ⟨y, rfl, rfl⟩
      have myk := List.mem_of_getElem? hy
      have my := pm.mem_iff.mp myk
      have hf := e9 _ _ (g8 _ _ (RA7.ne y myk) (RA7.files y myk))
      have hP10 := e9 _ _ (g8 _ _ Pd hP7)
      refine ⟨ad2 y, _, hf, trivial, fun od3 => ?_⟩
      have fz11 : upd H10 (ad2 y) (.frz od3 (.dK (kvF (G y)))) (ad2 y) = some (.frz od3 (.dK (kvF (G y)))) := upd_same
      have g11 : ∀ b o, b ≠ ad2 y → H10 b = some o → upd H10 (ad2 y) (.frz od3 (.dK (kvF (G y)))) b = some o := fun b o n e => (upd_ne n).trans e
      have Pa : P ≠ ad2 y := fun z => by rw [z, hf] at hP10; cases hP10
      generalize upd H10 (ad2 y) (.frz od3 (.dK (kvF (G y)))) = H11 at fz11 g11 ⊢
      refine ⟨_, rfl, ad2 y, od3, rfl, .inl ⟨_, fz11, fun D nD => ?_⟩⟩
      have Da : D ≠ ad2 y := fun z => by rw [z, fz11] at nD; cases nD
      refine lc_it (walk_keys (kvs := kvF (G y))) (fun n H' => H' D = some (.lst []) ∧ Same H11 H') ⟨upd_same, same_new nD⟩ (fun n H' _ h => h.2 _ _ fz11) ?_ ?_
      · rintro n k' H12 H13 hn ⟨hD, e12⟩ ⟨rfl, kk, vv, hkv2, rfl⟩
        rw [List.getElem?_map] at hkv2
        obtain ⟨z, hz, rfl⟩ : ∃ z, (G y)[n]? = some z ∧ kk = .inr z.1 := by
          cases h : (G y)[n]? with
          | none => rw [h] at hkv2; cases hkv2
          | some z => rw [h] at hkv2; cases hkv2; exact ⟨z, rfl, rfl⟩
        have mz : z.1 ∈ (G y).map (·.1) := List.mem_map.mpr ⟨z, List.mem_of_getElem? hz, rfl⟩
        have zp : z.1 ∈ ps := by
          have h1 : (getF (runF cs FF y) z.1).isSome = true := by rw [← GG y my, get_some]; exact decide_eq_true mz
          exact src_run (Pr := fun k => k ∈ ps) AO SC.ok (fun u hu k hk => (mem k).mpr ⟨u, hu, of_decide_eq_true (by rw [← get_some]; exact hk)⟩) y my z.1 h1
        refine ⟨rfl, _, rfl, _, rfl, P, _, rfl, .inl (sqOf0 (e12 _ _ (g11 _ _ Pa hP10))), rfl, flat_strs ps, _, rfl, ?_⟩
        show if (!inV (.str z.1) (ps.map V.str)) = true then _ else _
        rw [inV_strs, decide_eq_true zp]
        show if (!true) = true then _ else _
        exact ⟨hD, e12⟩
      · rintro H12 ⟨hD, e12⟩
        refine ⟨e12 _ _ fz11, by decide, fun p6 n6 => ?_⟩
        have hD13 : upd H12 (ad2 y) (.dK (kvF (G y))) D = some (.lst []) := (upd_ne Da).trans hD
        have e1013 : Same H10 (upd H12 (ad2 y) (.dK (kvF (G y)))) := fun b o e => by
          by_cases z : b = ad2 y
          · rw [z, upd_same]
            rw [z, hf] at e
            exact e
          · exact (upd_ne z).trans (e12 _ _ (g11 b o z e))
        generalize upd H12 (ad2 y) (.dK (kvF (G y))) = H13 at hD13 e1013 n6 ⊢
        have e14 : Same H13 (upd H13 p6 (.lst [])) := same_new n6
        refine ⟨D, p6, [], rfl, rfl, sqOf0 (e14 _ _ hD13), sqOf0 upd_same, _, rfl, ?_⟩
        show if (!true) = true then _ else _
        exact ⟨⟨_, rfl⟩, e9.trans (e1013.trans e14)⟩
    · rintro σ H9 ⟨⟨x5, rfl⟩, e9⟩
      refine ⟨e9 _ _ fz8, ?_⟩
      exact q _ (same_up (e08.trans e9) (e1.free RA7.fd))
end
end Cv

/-! part K11LR -/
set_option maxRecDepth 100000
set_option maxHeartbeats 4000000
namespace Cv
open PySem PySem.Spec PyProof.Rows L2
theorem nms_gd (k : Nat) : ∀ {l : List Str}, (∀ y ∈ l, IsNm y) → Gds (l.map .str) (9 * l.length) k
  | [], _ => .nil k
  | y :: l, h => by
    have e : 9 * (y :: l).length = 8 + 1 + 9 * l.length := by rw [List.length_cons]; omega
    rw [e]
    exact .cons (nm_gd (h y List.mem_cons_self) k) (nms_gd k fun z hz => h z (List.mem_cons_of_mem _ hz))
theorem nm_lay {y : Str} (hy : IsNm y) : (PyData.str y).canLay0 = true := by
  simp only [PyData.canLay0, PyData.strOk, Array.all_eq_true_iff_forall_mem, decide_eq_true_eq]
  intro d hd
  have := hy.2.2 d (Array.mem_toList_iff.mpr hd)
  omega
theorem strs_eqv : ∀ l m : List Str, PyData.eqvAll (l.map .str) (m.map .str) = decide (l = m)
  | [], [] => by
    show PyData.eqvAll [] [] = _
    simp only [PyData.eqvAll]
    rfl
  | [], y :: m => by
    show PyData.eqvAll [] (.str y :: m.map .str) = _
    simp only [PyData.eqvAll]
    rfl
  | x :: l, [] => by
    show PyData.eqvAll (.str x :: l.map .str) [] = _
    simp only [PyData.eqvAll]
    rfl
  | x :: l, y :: m => by
    show PyData.eqvAll (.str x :: l.map .str) (.str y :: m.map .str) = _
    simp only [PyData.eqvAll, PyData.eqv]
    rw [strs_eqv l m]
    by_cases h : x = y
    · subst h
      rw [beq_iff_eq.mpr rfl, Bool.true_and]
      by_cases k : l = m
      · rw [decide_eq_true k, decide_eq_true (by rw [k])]
      · rw [decide_eq_false k, decide_eq_false (fun z => k (List.cons.inj z).2)]
    · rw [beq_eq_false_iff_ne.mpr h, Bool.false_and, decide_eq_false (fun z => h (List.cons.inj z).1)]
theorem row_eqv (l m : List Str) : PyData.eqv (rowD l) (rowD m) = decide (l = m) := by
  unfold rowD
  simp only [PyData.eqv]
  exact strs_eqv l m
theorem strs_lay : ∀ {l : List Str}, (∀ z ∈ l, IsNm z) → PyData.canLayAll0 (l.map .str) = true
  | [], _ => rfl
  | y :: l, h => by
    show (PyData.canLay0 (.str y) && PyData.canLayAll0 (l.map .str)) = true
    rw [nm_lay (h y List.mem_cons_self), strs_lay fun z hz => h z (List.mem_cons_of_mem _ hz)]
    rfl
theorem row_lay {l : List Str} (h : ∀ z ∈ l, IsNm z) : (rowD l).canLay0 = true := by
  unfold rowD
  simp only [PyData.canLay0]
  exact strs_lay h
theorem row_dep {l : List Str} (h : ∀ z ∈ l, IsNm z) : (rowD l).depth ≤ 1 := (Gd.lst (nms_gd 0 h)).dp
theorem row_shaped {l : List Str} (h : ∀ z ∈ l, IsNm z) : SeqAt.shaped (rowD l) = true := by
  have g : (rowD l).depth ≤ 64 := Nat.le_trans (row_dep h) (by decide)
  show ((rowD l).canLay0 && decide ((rowD l).depth ≤ 64)) = true
  rw [row_lay h, decide_eq_true g]
  rfl
theorem own_one (z : Str) (l : List Str) : (own1 [z] l).isSome = decide (z ∈ l) := by
  unfold own1
  rw [Bool.eq_iff_iff, List.find?_isSome, decide_eq_true_eq]
  constructor
  · rintro ⟨x, hx, h⟩
    have := of_decide_eq_true h
    rw [← List.mem_singleton.mp this]
    exact hx
  · intro h
    exact ⟨z, h, decide_eq_true (List.mem_singleton.mpr rfl)⟩
theorem own_all {ys l : List Str} (h : ∀ z ∈ l, z ∈ ys) : own1 ys l = l.head? := by
  unfold own1
  cases l with
  | nil => rfl
  | cons x r => exact List.find?_cons_of_pos (decide_eq_true (h x List.mem_cons_self))
def spLr (K : PySem.W.Frag) : Sp := fun vs H Q _ => ∃ (j a p : Addr) (l : List V) (n : Nat) (ys : List Str) (cs : List Cp), vs = [.ref j, .ref a, .ref p] ∧ H j = some (.lst l) ∧ JarL l n ∧ n ≤ 10 ^ 7 ∧ SqT K H a (ys.map V.str) ∧ a ≠ j ∧ Fold ys ∧ Scr ys cs ∧ Dx K H j (.ref p) (planD cs) ∧
  ∀ (l' : List V) (H' : Hp), H' j = some (.lst l') → JarL l' (n + 400) → Eff j H H' → Q (.bl true) H'
section
variable {P : Program} {w : World} {K : PySem.W.Frag} {mg : Str → Option Value} {base : Heap}
abbrev NLs : List Str := ["jar", "names_here", "plan", "one", "row", "alone", "marks", "owners", "two", "mark"]
theorem scLs : FnScope NLs ["jar", "names_here", "plan"] (defScope sListsR) := ⟨rfl, rfl, rfl, by decide +kernel, rfl, by decide +kernel, by decide +kernel⟩
theorem ok_listsR {f : Addr} {fd : FuncData} (F : Fun K "_law_lists_right" "_law_lists_right" sListsR f fd) (B : Bl mg) (DD : Has P w K mg base CX0 1 "_law_dip" ["jar", "many"] spDip) (DI : Has P w K mg base CX0 6 "list_of" ["folders", "copies", "name"] (spList K))
    (DH : Has P w K mg base CX0 6 "heads_of" ["folders", "copies"] (spHeads K)) (DL : Has P w K mg base CX0 5 "lists_of" ["folders", "copies"] (spLists K)) (DW : Has P w K mg base CX0 7 "winner" ["folders", "copies", "name", "having"] (spWin K)) :
    FnOk P w K mg base CX0 8 f fd ["jar", "names_here", "plan"] (spLr K) := by
  refine F.ok scLs (fun vs H Q E h => ?_) (fun cdv A outer s H vs Q E hr h => ?_)
  · obtain ⟨j, a, p, l, n, ys, cs, rfl, _⟩ := h
    rfl
  · obtain ⟨j, a, p, l, n, ys, cs, rfl, hj, jl, hn, ha, aj, FO, SC, Dp, q⟩ := h
    refine ⟨_, pss_cons (ps_for PassesOwn.never rfl (pi_tup (pv 1)) (pg_name (i := 3) scLs.nd rfl (.inr rfl))
        (pss_cons (ps_set (i := 4) scLs.nd rfl (.inl rfl) (pe_has DI hr pass0 (pa_cons (pv 1) (pa_cons (pv 2) (pa_cons (pv 3) pa_nil)))))
        (pss_cons (ps_setLc (i := 5) (own := [("two", 8)]) (tt := tTest (tOp (fun x y H Q => y = .non ∧ Q (.bl (!decide (x = .non))) H) (tCl (spWin K) E0 (tCons (tVar 1) (tCons (tVar 2) (tCons (tVar 3) (tCons (tTup (tCons (tVar 8) tNil)) tNil))))) (tC .non))) (te := tVar 8) rfl scLs.nd rfl rfl (sw_true rfl rfl rfl (by decide +kernel)) (pi_tup (pv 1)) (blkOk_by (N := NLs) (sc := defScope sListsR) (by decide +kernel))
          (fun _ _ _ _ _ => pg_name (i := 8) scLs.nd rfl (.inl rfl)) (fun _ _ _ _ _ => pts_one (pt_cmpR op_notN (pe_has DW hr pass0 (pa_cons (pv 1) (pa_cons (pv 2) (pa_cons (pv 3) (pa_cons (pe_tup (pa_cons (pv 8) pa_nil)) pa_nil))))) pe_non (nomark _))) (fun _ _ _ _ _ => pv 8))
        (pss_cons (ps_if (pt_cmpR (op_neX (hu64 hr)) (pe_callB cr_sortedS (by rfl) B.sorted (by decide +kernel) (pa_cons (pv 4) pa_nil)) (pe_callB cr_sortedS (by rfl) B.sorted (by decide +kernel) (pa_cons (pv 5) pa_nil)) (nomark _)) (pss_one (ps_ret pe_bl)) pss_nil)
        (pss_cons (ps_if (pt_cmpR op_ne (pe_dget (hu1 hr) (pe_has DH hr pass0 (pa_cons (pv 1) (pa_cons (pv 2) pa_nil))) (pv 3) (fun _ _ => rfl)) (pe_has DW hr pass0 (pa_cons (pv 1) (pa_cons (pv 2) (pa_cons (pv 3) (pa_cons (pv 1) pa_nil))))) (nomark _)) (pss_one (ps_ret pe_bl)) pss_nil)
        (pss_cons (ps_setLc (i := 6) (own := [("two", 8)]) (tt := tYes) (te := tCl spDip E0 (tCons (tVar 0) (tCons (tC (.int 2)) tNil))) rfl scLs.nd rfl rfl (sw_true rfl rfl rfl (by decide +kernel)) (pi_tup (pv 1)) (blkOk_by (N := NLs) (sc := defScope sListsR) (by decide +kernel))
          (fun _ _ _ _ _ => pg_name (i := 8) scLs.nd rfl (.inl rfl)) (fun _ _ _ _ _ => pts_nil) (fun _ _ _ _ _ => pe_has DD hr pass0 (pa_cons (pv 0) (pa_cons pe_int pa_nil))))
        (pss_cons (ps_set (i := 7) scLs.nd rfl (.inr rfl) (pe_callTy call_tuple_of (by rfl) B.tuple (by decide +kernel) (pa_cons (pe_lc (own := [("two", 8), ("mark", 9)]) (g := gTup K 2 (gCons (gName 8) (gCons (gName 9) gNil))) (tt := tTest (tOp rEq (tVar 9) (tC (.int 0)))) (te := tVar 8) rfl scLs.nd
            (pi_zipM (by rfl) B.zip (pa_cons (pv 1) (pa_cons (pv 6) pa_nil))) (blkOk_by (N := NLs) (sc := defScope sListsR) (by decide +kernel)) ?zipg
            (fun _ _ _ _ _ => pts_one (pt_cmpR op_eq (pv 9) pe_int (nomark _))) (fun _ _ _ _ _ => pv 8)) pa_nil)))
        (pss_one (ps_if (pt_cmpR op_ne (pe_has DW hr pass0 (pa_cons (pv 1) (pa_cons (pv 2) (pa_cons (pv 3) (pa_cons (pv 7) pa_nil))))) (pe_ix ix_list (pe_op op_cat (pe_lc (own := [("two", 8)]) (tt := tTest (tOp (rIn K false) (tVar 8) (tVar 7))) (te := tVar 8) rfl scLs.nd (pi_list (pv 4)) (blkOk_by (N := NLs) (sc := defScope sListsR) (by decide +kernel))
            (fun _ _ _ _ _ => pg_name (i := 8) scLs.nd rfl (.inl rfl)) (fun _ _ _ _ _ => pts_one (pt_cmpR op_in_seq (pv 8) (pv 7) rfl)) (fun _ _ _ _ _ => pv 8)) (pe_lst (pa_cons pe_non pa_nil))) pe_int (fun _ _ => rfl)) (nomark _)) (pss_one (ps_ret pe_bl)) pss_nil)))))))))
      (pss_one (ps_ret (pe_cmpR (op_eqX (hu64 hr)) (pe_callTy (call_listD rfl) (by rfl) B.list (by decide +kernel) (pa_cons (pe_has DL hr pass0 (pa_cons (pv 1) (pa_cons (pv 2) pa_nil))) pa_nil)) (pe_callB cr_sortT (by rfl) B.sorted (by decide +kernel) (pa_cons (pv 1) pa_nil)) (nomark _)))), ?_⟩
    case zipg => exact fun _ _ _ _ _ => pg_tup rfl (pgs_cons (pg_name (i := 8) scLs.nd rfl (.inl rfl)) (pgs_cons (pg_name (i := 9) scLs.nd rfl (.inl rfl)) pgs_nil))
    have y20 := FO.hi
    have y1 := FO.lo
    refine ⟨_, rfl, a, rfl, ⟨_, ha⟩, ?_⟩
    refine for_tup (xs := ys.map V.str) (fun i σ H' => ∃ x3 x4 x5 x6 x7 l', σ = [some (.ref j), some (.ref a), some (.ref p), x3, x4, x5, x6, x7, none, none] ∧ Eff j H H' ∧ H' j = some (.lst l') ∧ JarL l' (n + 20 * i)) ⟨none, none, none, none, none, l, rfl, Eff.refl j H, hj, jl⟩ (fun i σ H' _ h => by obtain ⟨_, _, _, _, _, _, _, h, _⟩ := h; exact eff_t h aj ha) ?_ ?_
    · rintro i x σ H3 hx ⟨x3, x4, x5, x6, x7, l3, rfl, e3, hj3, jl3⟩
      obtain ⟨y, hy, rfl⟩ := strs_at hx
      have my := List.mem_of_getElem? hy
      have iy : i < ys.length := (List.getElem?_eq_some_iff.mp hy).1
      have ha3 := eff_t e3 aj ha
      have Dp3 := Dp.eff e3
      have ro := rok_run (ys := ys) SC.ok y my
      have rl : (runR cs y).length ≤ 20 := by have := ro.len; omega
      have nmr : ∀ z ∈ runR cs y, IsNm z := fun z hz => FO.nm z (ro.sub z hz)
      -- row
      refine ⟨_, rfl, _, rfl, _, rfl, j, a, p, ys, cs, y, rfl, my, FO, SC, ha3, aj, Dp3, fun r H4 fr hr4 e4 => ?_⟩
      have ha4 := same_t e4 ha3
      have Dp4 := Dp3.same e4
      have rj : r ≠ j := fun z => by rw [z, hj3] at fr; cases fr
      -- alone
      refine ⟨_, rfl, a, rfl, ⟨_, ha4⟩, fun D nD => ?_⟩
      refine lc_it (walk_tup (xs := ys.map V.str)) (fun n H' => H' D = some (.lst (((ys.take n).filter fun z => decide (z ∈ runR cs y)).map V.str)) ∧ Same H4 H') ⟨upd_same, same_new nD⟩ (fun n H' _ h => same_t h.2 ha4) ?_ ?_
      · rintro n z' H5 H6 hn ⟨hD, e5⟩ ⟨rfl, hz'⟩
        obtain ⟨z, hz, rfl⟩ := strs_at hz'
        have mz := List.mem_of_getElem? hz
        rw [List.length_map] at hn
        have e9 := take_filter (fun z => decide (z ∈ runR cs y)) hz
        refine ⟨rfl, _, rfl, _, rfl, _, rfl, _, rfl, by show 1 ≤ sizeLine; decide, fun t nt => ?_⟩
        have e7 : Same H6 (upd H6 t (.tup [.str z])) := same_new nt
        have ht : upd H6 t (.tup [.str z]) t = some (.tup ([z].map V.str)) := upd_same
        show tNil _ (upd H6 t (.tup [.str z])) _
        generalize upd H6 t (.tup [.str z]) = H7 at e7 ht ⊢
        have e47 := e5.trans e7
        refine ⟨j, a, p, t, ys, [z], cs, y, rfl, my, FO, SC, same_t e47 ha4, aj, Dp4.same e47, stOf0 ht, ⟨by simp, fun u hu => by rw [List.mem_singleton.mp hu]; exact mz⟩, fun H8 e8 => ⟨rfl, _, rfl, ?_⟩⟩
        rw [oV_non]
        have hD8 := e8 _ _ (e7 _ _ hD)
        have e48 := e47.trans e8
        have es : (!(own1 [z] (runR cs y)).isNone) = decide (z ∈ runR cs y) := by rw [← own_one]; cases own1 [z] (runR cs y) <;> rfl
        rw [es]
        refine ite2 (fun g => ?_) (fun g => ?_)
        · refine ⟨_, rfl, _, hD8, ?_, ?_, same_up e48 nD⟩
          · rw [List.length_map]
            exact Nat.lt_of_le_of_lt (List.length_filter_le _ _) (Nat.lt_of_le_of_lt (List.length_take_le _ _) (small1000 (by omega)))
          · rw [upd_same, e9, if_pos g, List.map_append]
            rfl
        · refine ⟨?_, e48⟩
          rw [hD8, e9, if_neg g, List.append_nil]
      rintro H5 ⟨hD, e5⟩
      rw [List.length_map, List.take_of_length_le (Nat.le_refl _)] at hD
      have e35 := e4.trans e5
      have hr5 := e5 _ _ hr4
      have fp : (ys.filter fun z => decide (z ∈ runR cs y)).Perm (runR cs y) := (List.perm_ext_iff_of_nodup (FO.nd.sublist List.filter_sublist) ro.nd).mpr fun z => by
        rw [List.mem_filter, decide_eq_true_eq]
        exact ⟨fun h => h.2, fun h => ⟨ro.sub z h, h⟩⟩
      have fl20 : (ys.filter fun z => decide (z ∈ runR cs y)).length ≤ 20 := by rw [fp.length_eq]; exact rl
      -- sorted
      refine ⟨_, rfl, r, _, rfl, sqOf0 hr5, by omega, fun zs1 p3 pz1 so1 n3 => ?_⟩
      have e6 : Same H5 (upd H5 p3 (.lst (zs1.map V.str))) := same_new n3
      have h3 : upd H5 p3 (.lst (zs1.map V.str)) p3 = some (.lst (zs1.map V.str)) := upd_same
      have hD6 := e6 _ _ hD
      generalize upd H5 p3 (.lst (zs1.map V.str)) = H6 at e6 h3 hD6 ⊢
      refine ⟨_, rfl, D, _, rfl, sqOf0 hD6, by omega, fun zs2 p4 pz2 so2 n4 => ?_⟩
      obtain rfl := sorted_one so2 so1 (pz2.trans fp) pz1
      have e7 : Same H6 (upd H6 p4 (.lst (zs2.map V.str))) := same_new n4
      have n34 : p3 ≠ p4 := ne_of_none h3 n4
      have nmz : ∀ z ∈ zs2, IsNm z := fun z hz => nmr z (pz1.mem_iff.mp hz)
      refine ⟨rowD zs2, rowD zs2, p4, p3, row_dx (e7 _ _ h3) n34, row_dx upd_same n34.symm, row_shaped nmz, row_shaped nmz, _, rfl, ?_⟩
      rw [row_eqv, decide_eq_true rfl]
      show if (!true) = true then _ else _
      have e37 := e35.trans (e6.trans e7)
      have hr7 := (e6.trans e7) _ _ hr5
      generalize upd H6 p4 (.lst (zs2.map V.str)) = H7 at e37 hr7 ⊢
      clear hD6 h3 n4 n34 e6 e7
      -- heads
      refine ⟨_, rfl, _, rfl, j, a, p, ys, cs, rfl, FO, SC, same_t e37 ha3, aj, Dp3.same e37, fun d ks H8 pm so fd hd e8 => ?_⟩
      have e38 := e37.trans e8
      refine ⟨_, rfl, d, _, rfl, kvS_val (g := fun y => V.str (hdR (runR cs) y)) (pm.mem_iff.mpr my) ▸ DGet.k (k := .inr y) hd, ?_⟩
      refine ⟨_, rfl, _, rfl, _, rfl, _, rfl, j, a, p, a, ys, ys, cs, y, rfl, my, FO, SC, same_t e38 ha3, aj, Dp3.same e38, same_t e38 ha3, ⟨FO.nd, fun _ h => h⟩, fun H9 e9 => ?_⟩
      have eh : oV (own1 ys (runR cs y)) = V.str (hdR (runR cs) y) := by
        rw [own_all ro.sub]
        have ho := ro.own
        unfold hdR
        cases h : runR cs y with
        | nil => rw [h] at ho; cases ho
        | cons x r => rfl
      rw [eh]
      refine ⟨rfl, _, rfl, ?_⟩
      rw [decide_eq_true rfl]
      show if (!true) = true then _ else _
      have e39 := e38.trans e9
      have hr9 := e9 _ _ (e8 _ _ hr7)
      have ha9 := same_t e39 ha3
      have Dp9 := Dp3.same e39
      have hj9 := e39 _ _ hj3
      -- marks
      refine ⟨_, rfl, a, rfl, ⟨_, ha9⟩, fun D2 nD2 => ?_⟩
      have D2j : D2 ≠ j := (ne_of_none hj9 nD2).symm
      refine lc_it (walk_tup (xs := ys.map V.str)) (fun k H' => ∃ (ms : List Int) (l' : List V), H' D2 = some (.lst (ms.map V.int)) ∧ ms.length = k ∧ Eff j H9 H' ∧ H' j = some (.lst l') ∧ JarL l' (n + 20 * i + k)) ⟨[], l3, upd_same, rfl, (Eff.refl j H9).new nD2, (upd_ne D2j.symm).trans hj9, jl3⟩ (fun k H' _ h => by obtain ⟨_, _, _, _, h, _⟩ := h; exact eff_t h aj ha9) ?_ ?_
      · rintro k z' H10 H11 hk ⟨ms, l4, hD2, lm, e10, hj10, jl10⟩ ⟨rfl, hz'⟩
        rw [List.length_map] at hk
        refine ⟨rfl, _, rfl, j, l4, 2, n + 20 * i + k, rfl, hj10, jl10, by omega, by decide, by decide, fun r2 l5 r20 r21 jl5 => ?_⟩
        refine ⟨_, (upd_ne D2j).trans hD2, by rw [List.length_map]; exact small1000 (by omega), ms ++ [r2], l5, by rw [upd_same, List.map_append]; rfl, by rw [List.length_append, lm]; rfl, (e10.atj).new nD2, (upd_ne D2j.symm).trans upd_same, jl5⟩
      rintro H10 ⟨ms, l4, hD2, lm, e10, hj10, jl10⟩
      rw [List.length_map] at lm jl10
      have ha10 := eff_t e10 aj ha9
      -- owners
      refine ⟨_, rfl, _, rfl, a, D2, ys.map V.str, ms.map V.int, rfl, ha10, sqOf0 hD2, fun D3 nD3 => ?_⟩
      have D32 : D3 ≠ D2 := (ne_of_none hD2 nD3).symm
      refine lc_it (walk_zipM (n := ys.length) (by rw [List.length_map]) (by rw [List.length_map, lm])) (fun k H' => ∃ ow : List Str, H' D3 = some (.lst (ow.map V.str)) ∧ ow.Sublist (ys.take k) ∧ Same H10 H') ⟨[], upd_same, List.Sublist.slnil, same_new nD3⟩ (fun k H' _ h => by obtain ⟨_, _, _, h⟩ := h; exact ⟨same_t h ha10, sqOf0 (h _ _ hD2)⟩) ?_ ?_
      · rintro k v H11 H12 hk ⟨ow, hD3, sl, e11⟩ ⟨Tp, x, m, rfl, nT, rfl, hx, hm⟩
        obtain ⟨z, hz, rfl⟩ := strs_at hx
        obtain ⟨m, rfl⟩ : ∃ m', m = .int m' := by
          rw [List.getElem?_map] at hm
          cases h : ms[k]? with
          | none => rw [h] at hm; cases hm
          | some y => rw [h] at hm; cases hm; exact ⟨y, rfl⟩
        have e12 : Same H11 (upd H11 Tp (.tup [.str z, .int m])) := same_new nT
        have hD3' := e12 _ _ hD3
        refine ⟨Tp, _, rfl, stOf0 upd_same, rfl, _, _, rfl, _, _, rfl, rfl, ?_⟩
        generalize upd H11 Tp (.tup [.str z, .int m]) = H12 at e12 hD3' ⊢
        have ol : ow.length ≤ 20 := by have := sl.length_le; rw [List.length_take] at this; omega
        refine ⟨rfl, _, rfl, rfl, _, rfl, ite2 (fun _ => ?_) (fun _ => ?_)⟩
        · refine ⟨_, rfl, _, hD3', by rw [List.length_map]; exact small1000 (by omega), ow ++ [z], by rw [upd_same, List.map_append]; rfl, ?_, same_up (e11.trans e12) nD3⟩
          rw [take_one hz]
          exact sl.append (List.Sublist.refl _)
        · refine ⟨ow, hD3', ?_, e11.trans e12⟩
          rw [take_one hz]
          exact sl.trans (List.sublist_append_left _ _)
      rintro H11 ⟨ow, hD3, sl, e11⟩
      rw [List.take_of_length_le (Nat.le_refl _)] at sl
      have OW : Ow ys ow := ⟨FO.nd.sublist sl, fun z hz => sl.subset hz⟩
      refine ⟨D3, _, rfl, .inl ⟨sqOf0 hD3, fun o no => ?_⟩⟩
      have e12 : Same H11 (upd H11 o (.tup (ow.map V.str))) := same_new no
      have ho : upd H11 o (.tup (ow.map V.str)) o = some (.tup (ow.map V.str)) := upd_same
      have e1012 := e11.trans e12
      generalize upd H11 o (.tup (ow.map V.str)) = H12 at e12 ho e1012 ⊢
      have E12 : Eff j H9 H12 := e10.trans (Eff.same e1012)
      -- the first owner
      refine ⟨_, rfl, _, rfl, _, rfl, _, rfl, j, a, p, o, ys, ow, cs, y, rfl, my, FO, SC, eff_t E12 aj ha9, aj, Dp9.eff E12, stOf0 ho, OW, fun H13 e13 => ?_⟩
      have hr13 := e13 _ _ (E12 _ _ rj hr9)
      have ho13 := e13 _ _ ho
      refine ⟨_, rfl, r, rfl, ⟨_, sqOf0 hr13⟩, fun D4 nD4 => ?_⟩
      generalize hl4 : runR cs y = lr at hr13 rl
      refine lc_it (walk_list (xs := lr.map V.str)) (fun i H' => H' D4 = some (.lst (((lr.take i).filter fun y => decide (y ∈ ow)).map V.str)) ∧ Same H13 H') ⟨upd_same, same_new nD4⟩ (fun i H' _ h => sqOf0 (h.2 _ _ hr13)) ?_ ?_
      · rintro k x H14 H15 hk ⟨hD4, e14⟩ ⟨rfl, hc⟩
        obtain ⟨z, hz, rfl⟩ := strs_at hc
        rw [List.length_map] at hk
        have e9 := take_filter (fun y => decide (y ∈ ow)) hz
        refine ⟨rfl, _, rfl, _, rfl, o, _, rfl, .inr (stOf0 (e14 _ _ ho13)), rfl, flat_strs ow, _, rfl, ?_⟩
        show if inV (.str z) (ow.map V.str) = true then _ else _
        rw [inV_strs]
        refine ite2 (fun k => ?_) (fun k => ?_)
        · refine ⟨_, rfl, _, hD4, ?_, ?_, same_up e14 nD4⟩
          · rw [List.length_map]
            exact Nat.lt_of_le_of_lt (List.length_filter_le _ _) (Nat.lt_of_le_of_lt (List.length_take_le _ _) (small1000 (by omega)))
          · rw [upd_same, e9, if_pos k, List.map_append]
            rfl
        · refine ⟨?_, e14⟩
          rw [hD4, e9, if_neg k, List.append_nil]
      rintro H14 ⟨hD4, e14⟩
      rw [List.take_of_length_le (by rw [List.length_map]; exact Nat.le_refl _)] at hD4
      refine ⟨by show 1 ≤ sizeLine; decide, fun p5 n5 => ?_⟩
      have e15 : Same H14 (upd H14 p5 (.lst [.non])) := same_new n5
      have hp5 : upd H14 p5 (.lst [.non]) p5 = some (.lst [.non]) := upd_same
      have hD5 := e15 _ _ hD4
      generalize upd H14 p5 (.lst [.non]) = H15 at e15 hp5 hD5 ⊢
      have hf : own1 ow lr = (lr.filter fun y => decide (y ∈ ow)).head? := List.head?_filter.symm
      have fl : (lr.filter fun y => decide (y ∈ ow)).length ≤ 20 := Nat.le_trans (List.length_filter_le _ _) rl
      rw [hf]
      generalize (lr.filter fun y => decide (y ∈ ow)) = fs at hD5 fl ⊢
      refine ⟨D4, p5, fs.map V.str, [.non], rfl, rfl, hD5, hp5, Nat.le_trans (show (fs.map V.str).length + 1 ≤ 1000 by rw [List.length_map]; omega) (by decide), fun p6 n6 => ?_⟩
      have e16 : Same H15 (upd H15 p6 (.lst (fs.map V.str ++ [.non]))) := same_new n6
      have hp6 : upd H15 p6 (.lst (fs.map V.str ++ [.non])) p6 = some (.lst (fs.map V.str ++ [.non])) := upd_same
      generalize upd H15 p6 (.lst (fs.map V.str ++ [.non])) = H16 at e16 hp6 ⊢
      have at0 : atI (fs.map V.str ++ [V.non]) ((0 : Nat) : Int) = some (oV fs.head?) := by
        refine atI_nat ?_
        cases fs <;> rfl
      refine ⟨p6, _, ((0 : Nat) : Int), _, rfl, rfl, sqOf0 hp6, at0, scal_oV _ _, _, rfl, ?_⟩
      rw [decide_eq_true rfl]
      show if (!true) = true then _ else _
      have E16 : Eff j H H16 := e3.trans ((Eff.same e39).trans (E12.trans (Eff.same (e13.trans (e14.trans (e15.trans e16))))))
      exact ⟨_, _, _, _, _, l4, rfl, E16, (e13.trans (e14.trans (e15.trans e16))) _ _ (e1012 _ _ hj10), jl10.mono (by omega)⟩
    · rintro σ H3 ⟨x3, x4, x5, x6, x7, l3, rfl, e3, hj3, jl3⟩
      rw [List.length_map] at jl3
      refine ⟨_, rfl, _, rfl, j, a, p, ys, cs, rfl, FO, SC, eff_t e3 aj ha, aj, Dp.eff e3, fun d ks ad H4 pm so RA e4 => ?_⟩
      refine ⟨d, kvR ks ad, rfl, .inl RA.at_, fun p5 n5 => ?_⟩
      have ek : (kvR ks ad).map (fun kv => kV kv.1) = ks.map V.str := by rw [List.map_map]; rfl
      rw [ek]
      have e5 : Same H4 (upd H4 p5 (.lst (ks.map V.str))) := same_new n5
      have h5 : upd H4 p5 (.lst (ks.map V.str)) p5 = some (.lst (ks.map V.str)) := upd_same
      generalize upd H4 p5 (.lst (ks.map V.str)) = H5 at e5 h5 ⊢
      have E5 : Eff j H H5 := e3.trans (Eff.same (e4.trans e5))
      refine ⟨_, rfl, a, ys, rfl, eff_t E5 aj ha, fun zs p6 pz so6 n6 => ?_⟩
      obtain rfl := sorted_one so6 so pz pm
      have e6 : Same H5 (upd H5 p6 (.lst (zs.map V.str))) := same_new n6
      have n56 : p5 ≠ p6 := ne_of_none h5 n6
      have nmz : ∀ z ∈ zs, IsNm z := fun z hz => FO.nm z (pm.mem_iff.mp hz)
      refine ⟨rowD zs, rowD zs, p6, p5, row_dx (e6 _ _ h5) n56, row_dx upd_same n56.symm, row_shaped nmz, row_shaped nmz, ?_⟩
      rw [row_eqv, decide_eq_true rfl]
      have hj6 := (e4.trans (e5.trans e6)) _ _ hj3
      exact q l3 _ hj6 (jl3.mono (by omega)) (E5.trans (Eff.same e6))
end
end Cv

/-! part K11B -/
set_option maxRecDepth 100000
set_option maxHeartbeats 4000000
namespace Cv
open PySem PySem.Spec PyProof.Rows L2
def spJar (K : PySem.W.Frag) : Sp := fun vs H Q _ => ∃ (a : Addr) (ns : List Int) (k : Int), vs = [.ref a, .int k] ∧ SqL K H a (ns.map V.int) ∧ ns.length ≤ 63 ∧ 0 ≤ k ∧ k ≤ 100 ∧
  ∀ (p : Addr) (l : List V), JarL l 0 → H p = none → Q (.ref p) (upd H p (.lst l))
section
variable {P : Program} {w : World} {K : PySem.W.Frag} {mg : Str → Option Value} {base : Heap}
theorem scJ : FnScope ["cells", "k", "cell"] ["cells", "k"] (defScope sJar) := ⟨rfl, rfl, rfl, by decide +kernel, rfl, by decide +kernel, by decide +kernel⟩
theorem p38 : (0 : Int) < 10 ^ (38 : Int).toNat + 133 := by decide
theorem e38 : (10 : Int) ^ (38 : Int).toNat + 133 ≤ 10 ^ 39 := by decide
theorem atI_lt {ns : List Int} {i : Int} (h0 : 0 ≤ i) (h : i < ns.length) : ∃ z, atI (ns.map V.int) i = some (V.int z) := by
  obtain ⟨m, rfl⟩ : ∃ m : Nat, i = (m : Int) := ⟨i.toNat, by omega⟩
  have hm : m < ns.length := by omega
  exact ⟨ns[m], atI_nat (by rw [List.getElem?_map, List.getElem?_eq_getElem hm]; rfl)⟩
theorem ok_jar {f : Addr} {fd : FuncData} (F : Fun K "_law_jar" "_law_jar" sJar f fd) (B : Bl mg) : FnOk P w K mg base CX0 1 f fd ["cells", "k"] (spJar K) := by
  refine F.ok scJ (fun vs H Q E h => ?_) (fun cdv A outer s H vs Q E hr h => ?_)
  · obtain ⟨a, ns, k, rfl, _⟩ := h
    rfl
  · obtain ⟨a, ns, k, rfl, ha, hl, hk0, hk, q⟩ := h
    refine ⟨_, pss_cons (ps_set (i := 2) scJ.nd rfl (.inl rfl) (pe_ifExp (pt_cmpR op_lt (pv 1) (pe_callB call_len_seq (by rfl) B.len PySem.boot_len (pa_cons (pv 0) pa_nil)) (nomark _)) (pe_ix ix_list (pv 0) (pv 1) (fun _ _ => rfl)) pe_int))
      (pss_one (ps_ret (pe_lst (pa_cons (pe_callB (call_max2 rfl) (by rfl) B.max (by decide +kernel) (pa_cons pe_int (pa_cons (pe_op op_sub (pe_callB call_abs (by rfl) B.abs (by decide +kernel) (pa_cons (pv 2) pa_nil)) (pe_op op_pow pe_int pe_int)) pa_nil)))
        (pa_cons (pe_op op_mod (pe_op op_add (pe_op op_add (pe_op op_mul (pv 2) pe_int) (pe_op op_mul pe_int (pv 1))) pe_int) (pe_op op_add (pe_op op_pow pe_int pe_int) pe_int)) (pa_cons pe_int pa_nil)))))), ?_⟩
    refine ⟨_, rfl, .ref a, rfl, a, _, rfl, .inl ha, _, _, rfl, rfl, _, rfl, ite2 (fun c => ?_) (fun c => ?_)⟩
    · have c' : k < ((ns.map V.int).length : Int) := of_decide_eq_true c
      rw [List.length_map] at c'
      obtain ⟨z, hz⟩ := atI_lt hk0 c'
      refine ⟨_, rfl, _, rfl, a, _, _, _, rfl, rfl, ha, hz, ?_⟩
      refine ⟨.int z, rfl, z, rfl, 10, 18, rfl, rfl, ⟨by decide, by decide, by decide⟩, _, _, rfl, rfl, 0, _, rfl, ?_⟩
      refine ⟨_, rfl, z, 83, rfl, rfl, .inr ⟨by decide, by decide⟩, _, rfl, 19, k, rfl, rfl, .inl ⟨by decide, by decide⟩, _, _, rfl, rfl, _, 11, rfl, rfl, ?_⟩
      refine ⟨10, 38, rfl, rfl, ⟨by decide, by decide, by decide⟩, _, 133, rfl, rfl, _, _, rfl, rfl, p38, by show 3 ≤ sizeLine; decide, fun p np => ?_⟩
      exact q p _ ⟨_, _, 0, rfl, by split <;> omega, Int.emod_nonneg _ (by decide), Int.lt_of_lt_of_le (Int.emod_lt_of_pos _ p38) e38, by decide, by decide⟩ np
    · refine ⟨.int 0, rfl, 0, rfl, 10, 18, rfl, rfl, ⟨by decide, by decide, by decide⟩, _, _, rfl, rfl, 0, _, rfl, ?_⟩
      refine ⟨_, rfl, 0, 83, rfl, rfl, .inr ⟨by decide, by decide⟩, _, rfl, 19, k, rfl, rfl, .inl ⟨by decide, by decide⟩, _, _, rfl, rfl, _, 11, rfl, rfl, ?_⟩
      refine ⟨10, 38, rfl, rfl, ⟨by decide, by decide, by decide⟩, _, 133, rfl, rfl, _, _, rfl, rfl, p38, by show 3 ≤ sizeLine; decide, fun p np => ?_⟩
      exact q p _ ⟨_, _, 0, rfl, by split <;> omega, Int.emod_nonneg _ (by decide), Int.lt_of_lt_of_le (Int.emod_lt_of_pos _ p38) e38, by decide, by decide⟩ np
end
end Cv


/-! part K11L -/
set_option maxRecDepth 100000
set_option maxHeartbeats 4000000
namespace Cv
open PySem PySem.Spec PyProof.Rows L2
def spLaw (K : PySem.W.Frag) : Sp := fun vs H Q _ => ∃ (a : Addr) (ns : List Int), vs = [.ref a] ∧ SqL K H a (ns.map V.int) ∧ ns.length ≤ 63 ∧ ∀ H', Q (.bl true) H'
abbrev NL : List Str := ["script", "k", "jar", "names_here", "contents_here", "plan", "other_plan", "found", "one"]
theorem scLw : FnScope NL ["script"] (defScope sLaw) := ⟨rfl, rfl, rfl, by decide +kernel, rfl, by decide +kernel, by decide +kernel⟩
theorem Fold.perm {ys ks : List Str} (h : Fold ys) (pm : ks.Perm ys) : Fold ks := ⟨by rw [pm.length_eq]; exact h.lo, by rw [pm.length_eq]; exact h.hi, pm.nodup_iff.mpr h.nd, fun y hy => h.nm y (pm.mem_iff.mp hy)⟩
theorem fok_files {PT : List Str} {fs : Fs} (h : FOk PT fs) (p40 : PT.length ≤ 40) (hp : ∀ p ∈ PT, IsPt p) : FilesOk fs := ⟨h.nd, Nat.le_trans h.len p40, fun p m => hp _ (h.sub _ (List.mem_map.mpr ⟨p, m, rfl⟩))⟩
theorem srt_keys {fs gs : Fs} (s : IsSrt fs gs) : (gs.map (·.1)).Perm (fs.map (·.1)) := by
  obtain ⟨ks, pk, sk, rfl⟩ := s
  have kk : (ks.map fun k => (k, (getF fs k).getD Str.empty)).map (·.1) = ks := by
    rw [List.map_map]
    show ks.map (fun k => k) = ks
    exact List.map_id' ks
  rw [kk]
  exact pk
theorem srt_fok {PT : List Str} {fs gs : Fs} (h : FOk PT fs) (s : IsSrt fs gs) : FOk PT gs := ⟨(srt_keys s).nodup_iff.mpr h.nd, fun k hk => h.sub k ((srt_keys s).mem_iff.mp hk)⟩
theorem srt_len {fs gs : Fs} (s : IsSrt fs gs) : gs.length = fs.length := by
  have := (srt_keys s).length_eq
  rw [List.length_map, List.length_map] at this
  exact this
theorem eq_runF {PT ys : List Str} : ∀ {cs : List Cp} {F G : Str → Fs}, AllOk PT ys F → AllOk PT ys G → (∀ c ∈ cs, CpOk ys c) → (∀ y ∈ ys, EqF (F y) (G y)) → ∀ y ∈ ys, EqF (runF cs F y) (runF cs G y)
  | [], _, _, _, _, _, e => e
  | c :: cs, F, G, hF, hG, hc, e => by
    have ck := hc c List.mem_cons_self
    refine eq_runF (cs := cs) (F := stepF F c) (G := stepF G c) (allok_F hF ck) (allok_F hG ck) (fun d hd => hc d (List.mem_cons_of_mem _ hd)) fun y hy k => ?_
    show getF (if y = c.2.2 then _ else F y) k = getF (if y = c.2.2 then _ else G y) k
    by_cases z : y = c.2.2
    · rw [if_pos z, if_pos z]
      by_cases w : c.1 = Str.ofString "over"
      · rw [if_pos w, if_pos w, jn_get (hF _ ck.a).nd, jn_get (hG _ ck.a).nd, e _ ck.a k, e _ ck.b k]
      · rw [if_neg w, if_neg w, jn_get (hF _ ck.b).nd, jn_get (hG _ ck.b).nd, e _ ck.a k, e _ ck.b k]
    · rw [if_neg z, if_neg z]
      exact e y hy k
theorem run_app (cs ds : List Cp) (F : Str → Fs) : runF (cs ++ ds) F = runF ds (runF cs F) := by
  unfold runF
  rw [List.foldl_append]
theorem eq_files {K : PySem.W.Frag} {H : Hp} {a b : Addr} {fs gs : Fs} (ha : H a = some (.dK (kvF fs))) (hb : H b = some (.dK (kvF gs))) (nd : (fs.map (·.1)).Nodup) (e : EqF fs gs) (l : fs.length = gs.length) : EqV K H 2 (.ref a) (.ref b) := by
  refine .inr (.inr (.inr ⟨a, b, kvF fs, kvF gs, rfl, rfl, ha, hb, by rw [List.length_map, List.length_map, l], fun p hp => ?_⟩))
  obtain ⟨z, hz, rfl⟩ := List.mem_map.mp hp
  refine ⟨.str z.2, ?_, .inl ⟨rfl, rfl⟩⟩
  rw [kvF_val, ← e, get_mem nd hz]
  rfl
theorem eq_con {K : PySem.W.Frag} {H : Hp} {d e : Addr} {ks ys : List Str} {ad ad' : Str → Addr} {F G : Str → Fs} (pm : ks.Perm ys) (hd : H d = some (.dK (kvR ks ad))) (he : H e = some (.dK (kvR ys ad'))) (h1 : ∀ y ∈ ks, H (ad y) = some (.dK (kvF (F y)))) (h2 : ∀ y ∈ ys, H (ad' y) = some (.dK (kvF (G y))))
    (nd : ∀ y ∈ ks, ((F y).map (·.1)).Nodup) (ee : ∀ y ∈ ks, EqF (F y) (G y)) (l : ∀ y ∈ ks, (F y).length = (G y).length) : EqD K H 2 (.ref d) (.ref e) := by
  refine ⟨d, e, _, _, rfl, rfl, hd, he, by rw [List.length_map, List.length_map, pm.length_eq], fun p hp => ?_⟩
  obtain ⟨y, hy, rfl⟩ := List.mem_map.mp hp
  have my := pm.mem_iff.mp hy
  exact ⟨_, kv_val my, eq_files (h1 y hy) (h2 y my) (nd y hy) (ee y hy) (l y hy)⟩
section
variable {P : Program} {w : World} {K : PySem.W.Frag} {mg : Str → Option Value} {base : Heap}
theorem ok_law {f : Addr} {fd : FuncData} (F : Fun K "law" "law" sLaw f fd) (B : Bl mg)
    (DJ : Has P w K mg base CX0 1 "_law_jar" ["cells", "k"] (spJar K)) (DD : Has P w K mg base CX0 1 "_law_dip" ["jar", "many"] spDip) (DN : Has P w K mg base CX0 2 "_law_names" ["jar", "many"] spNames)
    (DP : Has P w K mg base CX0 2 "_law_plan" ["jar", "names_here", "most"] (spPlan K)) (DC : Has P w K mg base CX0 3 "_law_contents" ["jar", "names_here", "most"] (spLC K))
    (DFR : Has P w K mg base CX0 8 "_law_files_right" ["contents_here", "plan"] (spFr K)) (DLR : Has P w K mg base CX0 8 "_law_lists_right" ["jar", "names_here", "plan"] (spLr K))
    (DR : Has P w K mg base CX0 5 "run" ["contents", "copies"] (spRun K)) (DA : Has P w K mg base CX0 3 "are_contents" ["value"] spCont) :
    FnOk P w K mg base CX0 9 f fd ["script"] (spLaw K) := by
  refine F.ok scLw (fun vs H Q E h => ?_) (fun cdv A outer s H vs Q E hr h => ?_)
  · obtain ⟨a, ns, rfl, _⟩ := h
    rfl
  · obtain ⟨a, ns, rfl, hS, hl, q⟩ := h
    refine ⟨_, pss_cons (ps_for PassesOwn.never rfl (pi_range1 (by rfl) B.range (pa_cons (pe_callB (call_max2 rfl) (by rfl) B.max (by decide +kernel) (pa_cons pe_int (pa_cons (pe_callB (call_min2 rfl) (by rfl) B.min (by decide +kernel)
            (pa_cons pe_int (pa_cons (pe_callB call_len_seq (by rfl) B.len PySem.boot_len (pa_cons (pv 0) pa_nil)) pa_nil))) pa_nil))) pa_nil)) (pg_name (i := 1) scLw.nd rfl (.inl rfl))
        (pss_cons (ps_set (i := 2) scLw.nd rfl (.inl rfl) (pe_has DJ hr pass0 (pa_cons (pv 0) (pa_cons (pv 1) pa_nil))))
        (pss_cons (ps_set (i := 3) scLw.nd rfl (.inl rfl) (pe_has DN hr pass0 (pa_cons (pv 2) (pa_cons (pe_op op_add pe_int (pe_has DD hr pass0 (pa_cons (pv 2) (pa_cons pe_int pa_nil)))) pa_nil))))
        (pss_cons (ps_set (i := 4) scLw.nd rfl (.inl rfl) (pe_has DC hr pass0 (pa_cons (pv 2) (pa_cons (pv 3) (pa_cons pe_int pa_nil)))))
        (pss_cons (ps_par (i := 5) (j := 6) rfl scLw.nd rfl rfl (by decide) rfl rfl (pa_cons (pe_has DP hr pass0 (pa_cons (pv 2) (pa_cons (pv 3) (pa_cons pe_int pa_nil)))) (pa_cons (pe_has DP hr pass0 (pa_cons (pv 2) (pa_cons (pv 3) (pa_cons pe_int pa_nil)))) pa_nil)) rfl)
        (pss_cons (ps_if (PW.pt (pw_or (pt_not (pt_val (pe_has DFR hr pass0 (pa_cons (pv 4) (pa_cons (pv 5) pa_nil))))) (pw_or1 (pt_not (pt_val (pe_has DLR hr pass0 (pa_cons (pv 2) (pa_cons (pv 3) (pa_cons (pv 5) pa_nil))))))))) (pss_one (ps_ret pe_bl)) pss_nil)
        (pss_cons (ps_set (i := 7) scLw.nd rfl (.inr rfl) (pe_has DR hr pass0 (pa_cons (pv 4) (pa_cons (pv 5) pa_nil))))
        (pss_cons (ps_if (pt_cmpR op_eq (pe_callB call_len_seq (by rfl) B.len PySem.boot_len (pa_cons (pe_lock (pe_lc (own := [("one", 8)]) (tt := tTest (tOp (rI0 fun i j => V.bl (decide (j < i))) (tCB (fun xs H Q => ∃ a kvs, xs = [V.ref a] ∧ H a = some (.dK kvs) ∧ Q (.int kvs.length) H) (tCons (tDGet (tVar 7) (tVar 8)) tNil)) (tC (.int 40)))) (te := tVar 8) rfl scLw.nd (pi_keys (pv 7)) (blkOk_by (N := NL) (sc := defScope sLaw) (by decide +kernel))
            (fun _ _ _ _ _ => pg_name (i := 8) scLw.nd rfl (.inl rfl)) (fun _ _ _ _ _ => pts_one (pt_cmpR op_gt (pe_callB call_lenD (by rfl) B.len PySem.boot_len (pa_cons (pe_dget (hu1 hr) (pv 7) (pv 8) (fun _ _ => rfl)) pa_nil)) pe_int (nomark _))) (fun _ _ _ _ _ => pv 8))) pa_nil)) pe_int (nomark _))
          (pss_one (ps_if (PW.pt (pw_or (pt_not (pt_val (pe_has DA hr pass0 (pa_cons (pv 7) pa_nil)))) (pw_or1 (pt_cmpR (op_neV (hu64 hr)) (pe_has DR hr pass0 (pa_cons (pv 7) (pa_cons (pv 6) pa_nil))) (pe_has DR hr pass0 (pa_cons (pv 4) (pa_cons (pe_op op_catA (pv 5) (pv 6)) pa_nil))) (nomark _))))) (pss_one (ps_ret pe_bl)) pss_nil)) pss_nil)
        (pss_one (ps_if (PW.pt (pw_or (pt_cmpR (op_neV (hu64 hr)) (pe_has DR hr pass0 (pa_cons (pv 4) (pa_cons (pe_tup pa_nil) pa_nil))) (pv 4) (nomark _)) (pw_or1 (pt_cmpR (op_neX (hu64 hr)) (pe_callTy (call_listD rfl) (by rfl) B.list (by decide +kernel) (pa_cons (pe_has DR hr pass0 (pa_cons (pv 4) (pa_cons (pe_tup pa_nil) pa_nil))) pa_nil)) (pe_callB cr_sortT (by rfl) B.sorted (by decide +kernel) (pa_cons (pv 3) pa_nil)) (nomark _))))) (pss_one (ps_ret pe_bl)) pss_nil))))))))))
      (pss_one (ps_ret pe_bl)), ?_⟩
    -- READING
    refine ⟨_, rfl, a, _, rfl, .inl hS, 5, _, rfl, 1, _, rfl, ?_⟩
    obtain ⟨T, hT, hT8⟩ : ∃ T : Int, (if (if ((ns.map V.int).length : Int) < 5 then ((ns.map V.int).length : Int) else 5) > 1 then (if ((ns.map V.int).length : Int) < 5 then ((ns.map V.int).length : Int) else 5) else 1) = T ∧ 0 ≤ T ∧ T ≤ 5 :=
      ⟨_, rfl, by omega, by omega⟩
    refine ⟨T, by rw [← hT], by omega, by omega, ?_⟩
    refine for_range (lo := 0) (n := T.toNat) (fun i σ H' => ∃ x1 x2 x3 x4 x5 x6 x7, σ = [some (.ref a), x1, x2, x3, x4, x5, x6, x7, none] ∧ Same H H') ⟨none, none, none, none, none, none, none, rfl, Same.refl H⟩ ?_ ?_
    · rintro i σ H1 hi ⟨x1, x2, x3, x4, x5, x6, x7, rfl, SH⟩
      refine ⟨_, rfl, _, rfl, a, ns, _, rfl, same_l SH hS, hl, by omega, by omega, fun j l0 jl0 nj => ?_⟩
      have hj0 : upd H1 j (.lst l0) j = some (.lst l0) := upd_same
      have e0 : Same H1 (upd H1 j (.lst l0)) := same_new nj
      show tSeq _ _ _ _ (upd H1 j (.lst l0))
      generalize upd H1 j (.lst l0) = L at hj0 e0 ⊢
      have fin : ∀ {H' : Hp}, Eff j L H' → Same H H' := fun e b u hb => e b u (fun z => by rw [z] at hb; have := SH _ _ hb; rw [nj] at this; cases this) (e0 b u (SH b u hb))
      -- names_here
      refine ⟨_, rfl, _, rfl, j, l0, 8, 0, rfl, hj0, jl0, by decide, by decide, by decide, fun r l1 r0 r1 jl1 => ?_⟩
      have hj1 : upd L j (.lst l1) j = some (.lst l1) := upd_same
      have e1 : Eff j L (upd L j (.lst l1)) := (Eff.refl j L).atj
      generalize upd L j (.lst l1) = H2 at hj1 e1 ⊢
      refine ⟨1, r, rfl, rfl, j, l1, 1 + r, 1, rfl, hj1, jl1, by decide, by omega, by omega, fun a2 ys l2 H3 Nm ha3 hj3 jl3 e3 => ?_⟩
      have e03 := e1.trans e3
      have a2j : a2 ≠ j := fun z => by rw [z, hj3] at ha3; cases ha3
      have FO : Fold ys := ⟨by have := Nm.1; omega, by have := Nm.1; omega, Nm.2.1, Nm.2.2.1⟩
      -- contents_here
      refine ⟨_, rfl, _, rfl, j, a2, l2, 8, 201, ys, rfl, hj3, jl3, by decide, stOf0 ha3, a2j, FO, by decide, by decide, fun c PT ad FF l4 H4 lPT hPT AO TX CA dj fc fad hj4 jl4 e4 => ?_⟩
      have ha4 := e4 _ _ a2j ha3
      have e04 := e03.trans e4
      have cj : c ≠ j := fun z => by rw [z, hj3] at fc; cases fc
      have adj : ∀ y ∈ ys, ad y ≠ j := fun y hy z => by have := fad y hy; rw [z, hj3] at this; cases this
      have CO : ConOk ys FF := ⟨FO, fun y hy => fok_files (AO y hy) lPT hPT⟩
      have CAe : ∀ {H' : Hp}, Eff j H4 H' → ConAt H' c ys ad FF := fun e => ⟨e _ _ cj CA.at_, fun y hy => e _ _ (adj y hy) (CA.files y hy), CA.ne⟩
      -- two plans
      refine ⟨_, rfl, _, rfl, j, a2, l4, 30, 3201, ys, rfl, hj4, jl4, by decide, stOf0 ha4, a2j, FO.lo, FO.hi, FO.nd, by decide, by decide, fun p cs l5 H5 PL Dp hj5 jl5 e5 => ?_⟩
      have SC : Scr ys cs := ⟨by have := PL.l; omega, PL.c⟩
      have cs30 : cs.length ≤ 30 := by have := PL.l; omega
      have ha5 := e5 _ _ a2j ha4
      refine ⟨_, rfl, _, rfl, j, a2, l5, 30, 4901, ys, rfl, hj5, jl5, by decide, stOf0 ha5, a2j, FO.lo, FO.hi, FO.nd, by decide, by decide, fun p2 cs2 l6 H6 PL2 Dp2 hj6 jl6 e6 => ⟨_, _, rfl, ?_⟩⟩
      have SC2 : Scr ys cs2 := ⟨by have := PL2.l; omega, PL2.c⟩
      have c230 : cs2.length ≤ 30 := by have := PL2.l; omega
      have ha6 := e6 _ _ a2j ha5
      have Dp6 := Dp.eff e6
      have e46 := e5.trans e6
      have e06 := e04.trans e46
      -- files and lists right
      refine ⟨_, rfl, _, rfl, j, c, p, _, ys, PT, ad, FF, cs, rfl, hj6, CAe e46, CO, lPT, AO, SC, Dp6, fun H7 e7 => ⟨_, rfl, ?_⟩⟩
      show if (!true) = true then _ else _
      have e07 := e06.trans (Eff.same (j := j) e7)
      have e47 := e46.trans (Eff.same (j := j) e7)
      refine ⟨_, rfl, _, rfl, _, rfl, j, a2, p, l6, 6601, ys, cs, rfl, e7 _ _ hj6, jl6, by decide, stOf0 (e7 _ _ ha6), a2j, FO, SC, Dp6.same e7, fun l8 H8 hj8 jl8 e8 => ⟨_, rfl, ?_⟩⟩
      show if (!true) = true then _ else _
      have e08 := e07.trans e8
      have e48 := e47.trans e8
      have ha8 := e8 _ _ a2j (e7 _ _ ha6)
      have Dp8 := (Dp6.same e7).eff e8
      have Dp28 := (Dp2.same e7).eff e8
      have CA8 := CAe e48
      clear CAe Dp6 Dp Dp2 ha6 ha5 ha4 ha3 hj6 hj5 hj4 hj3
      -- found
      refine ⟨_, rfl, _, rfl, j, c, p, ys, PT, ad, FF, cs, rfl, CA8, CO, lPT, AO, SC, Dp8, fun d ks ad1 G H9 pm so SG RA e9 => ?_⟩
      have k20 : ks.length ≤ 20 := by rw [pm.length_eq]; exact FO.hi
      have AR := allok_runF (cs := cs) AO SC.ok
      have AG : AllOk PT ys G := fun y hy => srt_fok (AR y hy) (SG y (pm.mem_iff.mpr hy))
      have AGk : AllOk PT ks G := fun y hy => AG y (pm.mem_iff.mp hy)
      have COk : ConOk ks G := ⟨FO.perm pm, fun y hy => fok_files (AGk y hy) lPT hPT⟩
      have SC2k : Scr ks cs2 := ⟨SC2.le, fun cp hc => ⟨(SC2.ok cp hc).w, pm.mem_iff.mpr (SC2.ok cp hc).a, pm.mem_iff.mpr (SC2.ok cp hc).b, (SC2.ok cp hc).n⟩⟩
      -- no folder has too many
      refine ⟨d, _, RA.at_, trivial, fun od => ?_⟩
      have fz : upd H9 d (.frz od (.dK (kvR ks ad1))) d = some (.frz od (.dK (kvR ks ad1))) := upd_same
      have g10 : ∀ b o, b ≠ d → H9 b = some o → upd H9 d (.frz od (.dK (kvR ks ad1))) b = some o := fun b o n e => (upd_ne n).trans e
      generalize upd H9 d (.frz od (.dK (kvR ks ad1))) = H10 at fz g10 ⊢
      refine ⟨_, rfl, d, od, rfl, .inl ⟨_, fz, fun D nD => ?_⟩⟩
      have Dd : D ≠ d := fun z => by rw [z, fz] at nD; cases nD
      refine lc_it (walk_keys (kvs := kvR ks ad1)) (fun n H' => H' D = some (.lst []) ∧ Same H10 H') ⟨upd_same, same_new nD⟩ (fun n H' _ h => h.2 _ _ fz) ?_ ?_
      · rintro n x H11 H12 hn ⟨hD, e11⟩ ⟨rfl, kk, vv, hkv, rfl⟩
        rw [List.getElem?_map] at hkv
        obtain ⟨y, hy, rfl⟩ : ∃ y, ks[n]? = some y ∧ kk = .inr y := by
          cases h : ks[n]? with
          | none => rw [h] at hkv; cases hkv
          | some y => rw [h] at hkv; cases hkv; exact ⟨y, rfl, rfl⟩
        have my := List.mem_of_getElem? hy
        have g : DGet H12 d (.str y) (some (.ref (ad1 y))) := kv_val (ad := ad1) my ▸ (.inl ⟨kvR ks ad1, .inr y, .inr ⟨od, e11 _ _ fz⟩, rfl, rfl⟩ : DGet H12 d (kV (.inr y)) (valV (kvR ks ad1) (.inr y)))
        refine ⟨rfl, _, rfl, _, rfl, d, _, rfl, g, ad1 y, _, rfl, e11 _ _ (g10 _ _ (RA.ne y my) (RA.files y my)), _, 40, rfl, rfl, _, rfl, ?_⟩
        rw [List.length_map, decide_eq_false (show ¬ (40 : Int) < ((G y).length : Int) by have := (COk.fi y my).le; omega)]
        show if false = true then _ else _
        exact ⟨hD, e11⟩
      rintro H11 ⟨hD, e11⟩
      refine ⟨e11 _ _ fz, ?_⟩
      have e913 : Same H9 (upd H11 d (.dK (kvR ks ad1))) := fun b o e => by
        by_cases z : b = d
        · rw [z, upd_same]
          rw [z, RA.at_] at e
          exact e
        · exact (upd_ne z).trans (e11 _ _ (g10 b o z e))
      have hD12 : upd H11 d (.dK (kvR ks ad1)) D = some (.lst []) := (upd_ne Dd).trans hD
      generalize upd H11 d (.dK (kvR ks ad1)) = H12 at e913 hD12 ⊢
      clear fz g10 hD e11
      have RA12 := RA.same e913
      have e812 := e9.trans e913
      refine ⟨D, [], rfl, .inl (sqOf0 hD12), rfl, _, rfl, ?_⟩
      show if true = true then _ else _
      -- are_contents, two scripts
      refine ⟨_, rfl, d, ks, ad1, G, rfl, ⟨RA12.at_, RA12.files, RA12.ne⟩, COk, fun H13 e13 => ⟨_, rfl, ?_⟩⟩
      show if (!true) = true then _ else _
      have e813 := e812.trans e13
      have RA13 := RA12.same e13
      refine ⟨_, rfl, _, rfl, j, d, p2, ks, PT, ad1, G, cs2, rfl, ⟨RA13.at_, RA13.files, RA13.ne⟩, COk, lPT, AGk, SC2k, Dp28.same e813, fun d2 ks2 ad2 G2 H14 pm2 so2 SG2 RA2 e14 => ?_⟩
      obtain rfl := sorted_one so2 so (pm2.trans pm) pm
      have e814 := e813.trans e14
      refine ⟨_, rfl, _, rfl, _, rfl, ?_⟩
      refine rd_catT (e814 _ _ hj8) (Dp8.same e814) (Dp28.same e814) (by rw [List.length_map, List.length_map]; omega) fun v5 H15 D5 e15 => ?_
      rw [← List.map_append] at D5
      obtain ⟨p9, rfl⟩ := ref_inv D5
      have e815 := e814.trans e15
      have SC3 : Scr ys (cs ++ cs2) := ⟨by rw [List.length_append]; omega, fun cp h => by
        rcases List.mem_append.mp h with m | m
        · exact SC.ok cp m
        · exact SC2.ok cp m⟩
      refine ⟨j, c, p9, ys, PT, ad, FF, cs ++ cs2, rfl, CA8.same e815, CO, lPT, AO, SC3, D5, fun d3 ks3 ad3 G3 H16 pm3 so3 SG3 RA3 e16 => ?_⟩
      obtain rfl := sorted_one so3 so2 pm3 (pm2.trans pm)
      have e816 := e815.trans e16
      have RA2' := (RA2.same e15).same e16
      have GE : ∀ y ∈ ks3, G2 y = G3 y := fun y hy => by
        have my := pm.mem_iff.mp hy
        have s3 := SG3 y hy
        rw [run_app] at s3
        exact srt_one (allok_runF AG SC2.ok y my) (allok_runF AR SC2.ok y my) (eq_runF AG AR SC2.ok (fun z hz k => srt_get (SG z (pm.mem_iff.mpr hz)) k) y my) (SG2 y hy) s3
      refine ⟨2, by decide, eq_con (F := G2) (G := G3) (List.Perm.refl _) RA2'.at_ RA3.at_ RA2'.files RA3.files (fun y hy => (srt_fok (allok_runF AG SC2.ok y (pm.mem_iff.mp hy)) (SG2 y hy)).nd) (fun y hy k => by rw [GE y hy]) (fun y hy => by rw [GE y hy]), _, rfl, ?_⟩
      show if false = true then _ else _
      -- the empty script
      refine ⟨_, rfl, by show 0 ≤ sizeLine; decide, fun t17 n17 => ?_⟩
      have e17 : Same H16 (upd H16 t17 (.tup [])) := same_new n17
      have ht17 : upd H16 t17 (.tup []) t17 = some (.tup []) := upd_same
      have t17j : t17 ≠ j := (ne_of_none (e816 _ _ hj8) n17).symm
      show tNil _ (upd H16 t17 (.tup [])) _
      generalize upd H16 t17 (.tup []) = H17 at e17 ht17 ⊢
      have e817 := e816.trans e17
      have SC0 : Scr ys [] := ⟨by decide, fun _ h => nomatch h⟩
      refine ⟨j, c, t17, ys, PT, ad, FF, [], rfl, CA8.same e817, CO, lPT, AO, SC0, .tup t17j (stOf0 ht17) .nil, fun d4 ks4 ad4 G4 H18 pm4 so4 SG4 RA4 e18 => ?_⟩
      have e818 := e817.trans e18
      refine ⟨_, rfl, 2, by decide, eq_con (F := G4) (G := FF) pm4 RA4.at_ (CA8.same e818).at_ RA4.files (CA8.same e818).files (fun y hy => (srt_fok (AO y (pm4.mem_iff.mp hy)) (SG4 y hy)).nd) (fun y hy k => srt_get (SG4 y hy) k) (fun y hy => srt_len (SG4 y hy)), _, rfl, ?_⟩
      show if false = true then _ else _
      refine ⟨_, rfl, by show 0 ≤ sizeLine; decide, fun t19 n19 => ?_⟩
      have e19 : Same H18 (upd H18 t19 (.tup [])) := same_new n19
      have ht19 : upd H18 t19 (.tup []) t19 = some (.tup []) := upd_same
      have t19j : t19 ≠ j := (ne_of_none (e818 _ _ hj8) n19).symm
      show tNil _ (upd H18 t19 (.tup [])) _
      generalize upd H18 t19 (.tup []) = H19 at e19 ht19 ⊢
      have e819 := e818.trans e19
      refine ⟨j, c, t19, ys, PT, ad, FF, [], rfl, CA8.same e819, CO, lPT, AO, SC0, .tup t19j (stOf0 ht19) .nil, fun d5 ks5 ad5 G5 H20 pm5 so5 SG5 RA5 e20 => ?_⟩
      have e820 := e819.trans e20
      refine ⟨d5, kvR ks5 ad5, rfl, .inl RA5.at_, fun q5 nq5 => ?_⟩
      have ek : (kvR ks5 ad5).map (fun kv => kV kv.1) = ks5.map V.str := by rw [List.map_map]; rfl
      rw [ek]
      have e21 : Same H20 (upd H20 q5 (.lst (ks5.map V.str))) := same_new nq5
      have hq5 : upd H20 q5 (.lst (ks5.map V.str)) q5 = some (.lst (ks5.map V.str)) := upd_same
      generalize upd H20 q5 (.lst (ks5.map V.str)) = H21 at e21 hq5 ⊢
      have e821 := e820.trans e21
      refine ⟨_, rfl, a2, ys, rfl, stOf0 (e821 _ _ ha8), fun zs q6 pz so6 nq6 => ?_⟩
      obtain rfl := sorted_one so6 so5 pz pm5
      have e22 : Same H21 (upd H21 q6 (.lst (zs.map V.str))) := same_new nq6
      have n56 : q5 ≠ q6 := ne_of_none hq5 nq6
      have nmz : ∀ z ∈ zs, IsNm z := fun z hz => FO.nm z (pm5.mem_iff.mp hz)
      refine ⟨rowD zs, rowD zs, q6, q5, row_dx (e22 _ _ hq5) n56, row_dx upd_same n56.symm, row_shaped nmz, row_shaped nmz, _, rfl, ?_⟩
      rw [row_eqv, decide_eq_true rfl]
      show if (!true) = true then _ else _
      exact ⟨_, _, _, _, _, _, _, rfl, fin (e08.trans (Eff.same (e821.trans e22)))⟩
    · rintro σ H1 ⟨x1, x2, x3, x4, x5, x6, x7, rfl, SH⟩
      exact q _
end
end Cv

/-! part K11M -/
set_option maxRecDepth 100000
set_option maxHeartbeats 4000000
namespace Cv
open PySem PySem.Spec PyProof.Rows L2
theorem has_of {P : Program} {w : World} {K : PySem.W.Frag} {mg : Str → Option Value} {base : Heap} {k : Nat} {x : Str} {qual : Str} {st : Stmt} {f : Addr} {fd : FuncData} {ps : List Str} {sp : Sp} (G : FnOk P w K mg base CX0 k f fd ps sp) (hm : mg x = some (.ref f)) (F : Fun K x qual st f fd) (b : Binds K fd ps []) :
    Has P w K mg base CX0 k x ps sp := ⟨f, fd, G, hm, F.kp, b⟩
theorem all_mk {l : PySem.W.OpenLaw} {w : World} {K : PySem.W.Frag} {h : Heap} {mg : Str → Option Value} {fa f1 f2 f3 f4 f5 f6 f7 f8 f9 f10 f11 f12 f13 f14 f15 f16 f17 f18 f19 f20 f21 f22 f23 f24 f25 f26 f27 f28 f29 f30 f31 f32 f33 : Addr} (X : K.In h) (G : h.Ns mainGlobals mg) (hfa : mg "law" = some (.ref fa))
    {od1 an1 : Option Addr} {sl1 : Array (Option Value)} {oc1 kV1 dc1 pm1 cd1 ct1 : Value} (a1 : PySem.W.nsIn K mainGlobals "is_name" = some (some (.ref f1))) (l1 : K.lookup f1 = some ⟨oc1, od1, .func (PySem.W.fnOf "is_name" "is_name" (defArgs sName) (defBody sName) (defScope sName) .none kV1 dc1 pm1 an1 cd1 ct1), sl1⟩) (c1 : PySem.W.codeIn K cd1 "is_name" = true) (k1 : PySem.W.keepIn K (.ref f1) = true)
    {od2 an2 : Option Addr} {sl2 : Array (Option Value)} {oc2 kV2 dc2 pm2 cd2 ct2 : Value} (a2 : PySem.W.nsIn K mainGlobals "are_folders" = some (some (.ref f2))) (l2 : K.lookup f2 = some ⟨oc2, od2, .func (PySem.W.fnOf "are_folders" "are_folders" (defArgs sFolders) (defBody sFolders) (defScope sFolders) .none kV2 dc2 pm2 an2 cd2 ct2), sl2⟩) (c2 : PySem.W.codeIn K cd2 "are_folders" = true) (k2 : PySem.W.keepIn K (.ref f2) = true)
    {od3 an3 : Option Addr} {sl3 : Array (Option Value)} {oc3 kV3 dc3 pm3 cd3 ct3 : Value} (a3 : PySem.W.nsIn K mainGlobals "is_one_of" = some (some (.ref f3))) (l3 : K.lookup f3 = some ⟨oc3, od3, .func (PySem.W.fnOf "is_one_of" "is_one_of" (defArgs sOneOf) (defBody sOneOf) (defScope sOneOf) .none kV3 dc3 pm3 an3 cd3 ct3), sl3⟩) (c3 : PySem.W.codeIn K cd3 "is_one_of" = true) (k3 : PySem.W.keepIn K (.ref f3) = true)
    {od4 an4 : Option Addr} {sl4 : Array (Option Value)} {oc4 kV4 dc4 pm4 cd4 ct4 : Value} (a4 : PySem.W.nsIn K mainGlobals "are_different" = some (some (.ref f4))) (l4 : K.lookup f4 = some ⟨oc4, od4, .func (PySem.W.fnOf "are_different" "are_different" (defArgs sAreDifferent) (defBody sAreDifferent) (defScope sAreDifferent) .none kV4 dc4 pm4 an4 cd4 ct4), sl4⟩) (c4 : PySem.W.codeIn K cd4 "are_different" = true) (k4 : PySem.W.keepIn K (.ref f4) = true)
    {od5 an5 : Option Addr} {sl5 : Array (Option Value)} {oc5 kV5 dc5 pm5 cd5 ct5 : Value} (a5 : PySem.W.nsIn K mainGlobals "are_some_of" = some (some (.ref f5))) (l5 : K.lookup f5 = some ⟨oc5, od5, .func (PySem.W.fnOf "are_some_of" "are_some_of" (defArgs sSomeOf) (defBody sSomeOf) (defScope sSomeOf) .none kV5 dc5 pm5 an5 cd5 ct5), sl5⟩) (c5 : PySem.W.codeIn K cd5 "are_some_of" = true) (k5 : PySem.W.keepIn K (.ref f5) = true)
    {od6 an6 : Option Addr} {sl6 : Array (Option Value)} {oc6 kV6 dc6 pm6 cd6 ct6 : Value} (a6 : PySem.W.nsIn K mainGlobals "has_names" = some (some (.ref f6))) (l6 : K.lookup f6 = some ⟨oc6, od6, .func (PySem.W.fnOf "has_names" "has_names" (defArgs sHasNames) (defBody sHasNames) (defScope sHasNames) .none kV6 dc6 pm6 an6 cd6 ct6), sl6⟩) (c6 : PySem.W.codeIn K cd6 "has_names" = true) (k6 : PySem.W.keepIn K (.ref f6) = true)
    {od7 an7 : Option Addr} {sl7 : Array (Option Value)} {oc7 kV7 dc7 pm7 cd7 ct7 : Value} (a7 : PySem.W.nsIn K mainGlobals "check_folders" = some (some (.ref f7))) (l7 : K.lookup f7 = some ⟨oc7, od7, .func (PySem.W.fnOf "check_folders" "check_folders" (defArgs sChkF) (defBody sChkF) (defScope sChkF) .none kV7 dc7 pm7 an7 cd7 ct7), sl7⟩) (c7 : PySem.W.codeIn K cd7 "check_folders" = true) (k7 : PySem.W.keepIn K (.ref f7) = true)
    {od8 an8 : Option Addr} {sl8 : Array (Option Value)} {oc8 kV8 dc8 pm8 cd8 ct8 : Value} (a8 : PySem.W.nsIn K mainGlobals "check_name" = some (some (.ref f8))) (l8 : K.lookup f8 = some ⟨oc8, od8, .func (PySem.W.fnOf "check_name" "check_name" (defArgs sChkN) (defBody sChkN) (defScope sChkN) .none kV8 dc8 pm8 an8 cd8 ct8), sl8⟩) (c8 : PySem.W.codeIn K cd8 "check_name" = true) (k8 : PySem.W.keepIn K (.ref f8) = true)
    {od9 an9 : Option Addr} {sl9 : Array (Option Value)} {oc9 kV9 dc9 pm9 cd9 ct9 : Value} (a9 : PySem.W.nsIn K mainGlobals "is_copy" = some (some (.ref f9))) (l9 : K.lookup f9 = some ⟨oc9, od9, .func (PySem.W.fnOf "is_copy" "is_copy" (defArgs sCopy) (defBody sCopy) (defScope sCopy) .none kV9 dc9 pm9 an9 cd9 ct9), sl9⟩) (c9 : PySem.W.codeIn K cd9 "is_copy" = true) (k9 : PySem.W.keepIn K (.ref f9) = true)
    {od10 an10 : Option Addr} {sl10 : Array (Option Value)} {oc10 kV10 dc10 pm10 cd10 ct10 : Value} (a10 : PySem.W.nsIn K mainGlobals "is_script" = some (some (.ref f10))) (l10 : K.lookup f10 = some ⟨oc10, od10, .func (PySem.W.fnOf "is_script" "is_script" (defArgs sScript) (defBody sScript) (defScope sScript) .none kV10 dc10 pm10 an10 cd10 ct10), sl10⟩) (c10 : PySem.W.codeIn K cd10 "is_script" = true) (k10 : PySem.W.keepIn K (.ref f10) = true)
    {od11 an11 : Option Addr} {sl11 : Array (Option Value)} {oc11 kV11 dc11 pm11 cd11 ct11 : Value} (a11 : PySem.W.nsIn K mainGlobals "check_script" = some (some (.ref f11))) (l11 : K.lookup f11 = some ⟨oc11, od11, .func (PySem.W.fnOf "check_script" "check_script" (defArgs sChkS) (defBody sChkS) (defScope sChkS) .none kV11 dc11 pm11 an11 cd11 ct11), sl11⟩) (c11 : PySem.W.codeIn K cd11 "check_script" = true) (k11 : PySem.W.keepIn K (.ref f11) = true)
    {od12 an12 : Option Addr} {sl12 : Array (Option Value)} {oc12 kV12 dc12 pm12 cd12 ct12 : Value} (a12 : PySem.W.nsIn K mainGlobals "joined_behind" = some (some (.ref f12))) (l12 : K.lookup f12 = some ⟨oc12, od12, .func (PySem.W.fnOf "joined_behind" "joined_behind" (defArgs sJoin) (defBody sJoin) (defScope sJoin) .none kV12 dc12 pm12 an12 cd12 ct12), sl12⟩) (c12 : PySem.W.codeIn K cd12 "joined_behind" = true) (k12 : PySem.W.keepIn K (.ref f12) = true)
    {od13 an13 : Option Addr} {sl13 : Array (Option Value)} {oc13 kV13 dc13 pm13 cd13 ct13 : Value} (a13 : PySem.W.nsIn K mainGlobals "first_lists" = some (some (.ref f13))) (l13 : K.lookup f13 = some ⟨oc13, od13, .func (PySem.W.fnOf "first_lists" "first_lists" (defArgs sFstL) (defBody sFstL) (defScope sFstL) .none kV13 dc13 pm13 an13 cd13 ct13), sl13⟩) (c13 : PySem.W.codeIn K cd13 "first_lists" = true) (k13 : PySem.W.keepIn K (.ref f13) = true)
    {od14 an14 : Option Addr} {sl14 : Array (Option Value)} {oc14 kV14 dc14 pm14 cd14 ct14 : Value} (a14 : PySem.W.nsIn K mainGlobals "lists_behind" = some (some (.ref f14))) (l14 : K.lookup f14 = some ⟨oc14, od14, .func (PySem.W.fnOf "lists_behind" "lists_behind" (defArgs sBehind) (defBody sBehind) (defScope sBehind) .none kV14 dc14 pm14 an14 cd14 ct14), sl14⟩) (c14 : PySem.W.codeIn K cd14 "lists_behind" = true) (k14 : PySem.W.keepIn K (.ref f14) = true)
    {od15 an15 : Option Addr} {sl15 : Array (Option Value)} {oc15 kV15 dc15 pm15 cd15 ct15 : Value} (a15 : PySem.W.nsIn K mainGlobals "lists_of" = some (some (.ref f15))) (l15 : K.lookup f15 = some ⟨oc15, od15, .func (PySem.W.fnOf "lists_of" "lists_of" (defArgs sLists) (defBody sLists) (defScope sLists) .none kV15 dc15 pm15 an15 cd15 ct15), sl15⟩) (c15 : PySem.W.codeIn K cd15 "lists_of" = true) (k15 : PySem.W.keepIn K (.ref f15) = true)
    {od16 an16 : Option Addr} {sl16 : Array (Option Value)} {oc16 kV16 dc16 pm16 cd16 ct16 : Value} (a16 : PySem.W.nsIn K mainGlobals "list_of" = some (some (.ref f16))) (l16 : K.lookup f16 = some ⟨oc16, od16, .func (PySem.W.fnOf "list_of" "list_of" (defArgs sList) (defBody sList) (defScope sList) .none kV16 dc16 pm16 an16 cd16 ct16), sl16⟩) (c16 : PySem.W.codeIn K cd16 "list_of" = true) (k16 : PySem.W.keepIn K (.ref f16) = true)
    {od17 an17 : Option Addr} {sl17 : Array (Option Value)} {oc17 kV17 dc17 pm17 cd17 ct17 : Value} (a17 : PySem.W.nsIn K mainGlobals "heads_of" = some (some (.ref f17))) (l17 : K.lookup f17 = some ⟨oc17, od17, .func (PySem.W.fnOf "heads_of" "heads_of" (defArgs sHeads) (defBody sHeads) (defScope sHeads) .none kV17 dc17 pm17 an17 cd17 ct17), sl17⟩) (c17 : PySem.W.codeIn K cd17 "heads_of" = true) (k17 : PySem.W.keepIn K (.ref f17) = true)
    {od18 an18 : Option Addr} {sl18 : Array (Option Value)} {oc18 kV18 dc18 pm18 cd18 ct18 : Value} (a18 : PySem.W.nsIn K mainGlobals "is_path" = some (some (.ref f18))) (l18 : K.lookup f18 = some ⟨oc18, od18, .func (PySem.W.fnOf "is_path" "is_path" (defArgs sPath) (defBody sPath) (defScope sPath) .none kV18 dc18 pm18 an18 cd18 ct18), sl18⟩) (c18 : PySem.W.codeIn K cd18 "is_path" = true) (k18 : PySem.W.keepIn K (.ref f18) = true)
    {od19 an19 : Option Addr} {sl19 : Array (Option Value)} {oc19 kV19 dc19 pm19 cd19 ct19 : Value} (a19 : PySem.W.nsIn K mainGlobals "are_files" = some (some (.ref f19))) (l19 : K.lookup f19 = some ⟨oc19, od19, .func (PySem.W.fnOf "are_files" "are_files" (defArgs sFiles) (defBody sFiles) (defScope sFiles) .none kV19 dc19 pm19 an19 cd19 ct19), sl19⟩) (c19 : PySem.W.codeIn K cd19 "are_files" = true) (k19 : PySem.W.keepIn K (.ref f19) = true)
    {od20 an20 : Option Addr} {sl20 : Array (Option Value)} {oc20 kV20 dc20 pm20 cd20 ct20 : Value} (a20 : PySem.W.nsIn K mainGlobals "are_contents" = some (some (.ref f20))) (l20 : K.lookup f20 = some ⟨oc20, od20, .func (PySem.W.fnOf "are_contents" "are_contents" (defArgs sCont) (defBody sCont) (defScope sCont) .none kV20 dc20 pm20 an20 cd20 ct20), sl20⟩) (c20 : PySem.W.codeIn K cd20 "are_contents" = true) (k20 : PySem.W.keepIn K (.ref f20) = true)
    {od21 an21 : Option Addr} {sl21 : Array (Option Value)} {oc21 kV21 dc21 pm21 cd21 ct21 : Value} (a21 : PySem.W.nsIn K mainGlobals "check_contents" = some (some (.ref f21))) (l21 : K.lookup f21 = some ⟨oc21, od21, .func (PySem.W.fnOf "check_contents" "check_contents" (defArgs sCheckContents) (defBody sCheckContents) (defScope sCheckContents) .none kV21 dc21 pm21 an21 cd21 ct21), sl21⟩) (c21 : PySem.W.codeIn K cd21 "check_contents" = true) (k21 : PySem.W.keepIn K (.ref f21) = true)
    {od22 an22 : Option Addr} {sl22 : Array (Option Value)} {oc22 kV22 dc22 pm22 cd22 ct22 : Value} (a22 : PySem.W.nsIn K mainGlobals "sorted_files" = some (some (.ref f22))) (l22 : K.lookup f22 = some ⟨oc22, od22, .func (PySem.W.fnOf "sorted_files" "sorted_files" (defArgs sSrtF) (defBody sSrtF) (defScope sSrtF) .none kV22 dc22 pm22 an22 cd22 ct22), sl22⟩) (c22 : PySem.W.codeIn K cd22 "sorted_files" = true) (k22 : PySem.W.keepIn K (.ref f22) = true)
    {od23 an23 : Option Addr} {sl23 : Array (Option Value)} {oc23 kV23 dc23 pm23 cd23 ct23 : Value} (a23 : PySem.W.nsIn K mainGlobals "run" = some (some (.ref f23))) (l23 : K.lookup f23 = some ⟨oc23, od23, .func (PySem.W.fnOf "run" "run" (defArgs sRun) (defBody sRun) (defScope sRun) .none kV23 dc23 pm23 an23 cd23 ct23), sl23⟩) (c23 : PySem.W.codeIn K cd23 "run" = true) (k23 : PySem.W.keepIn K (.ref f23) = true)
    {od24 an24 : Option Addr} {sl24 : Array (Option Value)} {oc24 kV24 dc24 pm24 cd24 ct24 : Value} (a24 : PySem.W.nsIn K mainGlobals "winner" = some (some (.ref f24))) (l24 : K.lookup f24 = some ⟨oc24, od24, .func (PySem.W.fnOf "winner" "winner" (defArgs sWin) (defBody sWin) (defScope sWin) .none kV24 dc24 pm24 an24 cd24 ct24), sl24⟩) (c24 : PySem.W.codeIn K cd24 "winner" = true) (k24 : PySem.W.keepIn K (.ref f24) = true)
    {od25 an25 : Option Addr} {sl25 : Array (Option Value)} {oc25 kV25 dc25 pm25 cd25 ct25 : Value} (a25 : PySem.W.nsIn K mainGlobals "_law_jar" = some (some (.ref f25))) (l25 : K.lookup f25 = some ⟨oc25, od25, .func (PySem.W.fnOf "_law_jar" "_law_jar" (defArgs sJar) (defBody sJar) (defScope sJar) .none kV25 dc25 pm25 an25 cd25 ct25), sl25⟩) (c25 : PySem.W.codeIn K cd25 "_law_jar" = true) (k25 : PySem.W.keepIn K (.ref f25) = true)
    {od26 an26 : Option Addr} {sl26 : Array (Option Value)} {oc26 kV26 dc26 pm26 cd26 ct26 : Value} (a26 : PySem.W.nsIn K mainGlobals "_law_dip" = some (some (.ref f26))) (l26 : K.lookup f26 = some ⟨oc26, od26, .func (PySem.W.fnOf "_law_dip" "_law_dip" (defArgs sDip) (defBody sDip) (defScope sDip) .none kV26 dc26 pm26 an26 cd26 ct26), sl26⟩) (c26 : PySem.W.codeIn K cd26 "_law_dip" = true) (k26 : PySem.W.keepIn K (.ref f26) = true)
    {od27 an27 : Option Addr} {sl27 : Array (Option Value)} {oc27 kV27 dc27 pm27 cd27 ct27 : Value} (a27 : PySem.W.nsIn K mainGlobals "_law_names" = some (some (.ref f27))) (l27 : K.lookup f27 = some ⟨oc27, od27, .func (PySem.W.fnOf "_law_names" "_law_names" (defArgs sNames) (defBody sNames) (defScope sNames) .none kV27 dc27 pm27 an27 cd27 ct27), sl27⟩) (c27 : PySem.W.codeIn K cd27 "_law_names" = true) (k27 : PySem.W.keepIn K (.ref f27) = true)
    {od28 an28 : Option Addr} {sl28 : Array (Option Value)} {oc28 kV28 dc28 pm28 cd28 ct28 : Value} (a28 : PySem.W.nsIn K mainGlobals "_law_plan" = some (some (.ref f28))) (l28 : K.lookup f28 = some ⟨oc28, od28, .func (PySem.W.fnOf "_law_plan" "_law_plan" (defArgs sPlan) (defBody sPlan) (defScope sPlan) .none kV28 dc28 pm28 an28 cd28 ct28), sl28⟩) (c28 : PySem.W.codeIn K cd28 "_law_plan" = true) (k28 : PySem.W.keepIn K (.ref f28) = true)
    {od29 an29 : Option Addr} {sl29 : Array (Option Value)} {oc29 kV29 dc29 pm29 cd29 ct29 : Value} (a29 : PySem.W.nsIn K mainGlobals "_law_path" = some (some (.ref f29))) (l29 : K.lookup f29 = some ⟨oc29, od29, .func (PySem.W.fnOf "_law_path" "_law_path" (defArgs sLPath) (defBody sLPath) (defScope sLPath) .none kV29 dc29 pm29 an29 cd29 ct29), sl29⟩) (c29 : PySem.W.codeIn K cd29 "_law_path" = true) (k29 : PySem.W.keepIn K (.ref f29) = true)
    {od30 an30 : Option Addr} {sl30 : Array (Option Value)} {oc30 kV30 dc30 pm30 cd30 ct30 : Value} (a30 : PySem.W.nsIn K mainGlobals "_law_contents" = some (some (.ref f30))) (l30 : K.lookup f30 = some ⟨oc30, od30, .func (PySem.W.fnOf "_law_contents" "_law_contents" (defArgs sLCont) (defBody sLCont) (defScope sLCont) .none kV30 dc30 pm30 an30 cd30 ct30), sl30⟩) (c30 : PySem.W.codeIn K cd30 "_law_contents" = true) (k30 : PySem.W.keepIn K (.ref f30) = true)
    {od31 an31 : Option Addr} {sl31 : Array (Option Value)} {oc31 kV31 dc31 pm31 cd31 ct31 : Value} (a31 : PySem.W.nsIn K mainGlobals "_law_files_right" = some (some (.ref f31))) (l31 : K.lookup f31 = some ⟨oc31, od31, .func (PySem.W.fnOf "_law_files_right" "_law_files_right" (defArgs sFilesR) (defBody sFilesR) (defScope sFilesR) .none kV31 dc31 pm31 an31 cd31 ct31), sl31⟩) (c31 : PySem.W.codeIn K cd31 "_law_files_right" = true) (k31 : PySem.W.keepIn K (.ref f31) = true)
    {od32 an32 : Option Addr} {sl32 : Array (Option Value)} {oc32 kV32 dc32 pm32 cd32 ct32 : Value} (a32 : PySem.W.nsIn K mainGlobals "_law_lists_right" = some (some (.ref f32))) (l32 : K.lookup f32 = some ⟨oc32, od32, .func (PySem.W.fnOf "_law_lists_right" "_law_lists_right" (defArgs sListsR) (defBody sListsR) (defScope sListsR) .none kV32 dc32 pm32 an32 cd32 ct32), sl32⟩) (c32 : PySem.W.codeIn K cd32 "_law_lists_right" = true) (k32 : PySem.W.keepIn K (.ref f32) = true)
    {od33 an33 : Option Addr} {sl33 : Array (Option Value)} {oc33 kV33 dc33 pm33 cd33 ct33 : Value} (a33 : PySem.W.nsIn K mainGlobals "law" = some (some (.ref f33))) (l33 : K.lookup f33 = some ⟨oc33, od33, .func (PySem.W.fnOf "law" "law" (defArgs sLaw) (defBody sLaw) (defScope sLaw) .none kV33 dc33 pm33 an33 cd33 ct33), sl33⟩) (c33 : PySem.W.codeIn K cd33 "law" = true) (k33 : PySem.W.keepIn K (.ref f33) = true)
    {tx1 : Tok} (w1 : PySem.W.nsIn K mainGlobals "LONGEST_NAME" = some (some (.int 8 tx1)))
    {tx2 : Tok} (w2 : PySem.W.nsIn K mainGlobals "MOST_FOLDERS" = some (some (.int 20 tx2)))
    {aw3 : Addr} {odw3 : Option Addr} {slw3 : Array (Option Value)} {itsw3 : Array Value} {nw3 : Nat} {tx3a tx3b : Tok} (w3 : PySem.W.nsIn K mainGlobals "WORDS" = some (some (.ref aw3))) (wl3 : K.lookup aw3 = some ⟨.type "tuple", odw3, .seq itsw3 nw3, slw3⟩) (we3 : itsw3 = #[.str (Str.ofString "over") tx3a, .str (Str.ofString "skip") tx3b])
    {tx4 : Tok} (w4 : PySem.W.nsIn K mainGlobals "MOST_COPIES" = some (some (.int 200 tx4)))
    {tx5 : Tok} (w5 : PySem.W.nsIn K mainGlobals "LONGEST_PATH" = some (some (.int 20 tx5)))
    {tx6 : Tok} (w6 : PySem.W.nsIn K mainGlobals "PATH_SIGNS" = some (some (.str (Str.ofString "abcdefghijklmnopqrstuvwxyz0123456789./") tx6)))
    {tx7 : Tok} (w7 : PySem.W.nsIn K mainGlobals "MOST_FILES" = some (some (.int 40 tx7)))
    (z1 : PySem.W.nsIn K mainGlobals "len" = some none) (z2 : PySem.W.nsIn K mainGlobals "list" = some none) (z3 : PySem.W.nsIn K mainGlobals "tuple" = some none) (z4 : PySem.W.nsIn K mainGlobals "range" = some none) (z5 : PySem.W.nsIn K mainGlobals "abs" = some none) (z6 : PySem.W.nsIn K mainGlobals "max" = some none) (z7 : PySem.W.nsIn K mainGlobals "min" = some none) (z8 : PySem.W.nsIn K mainGlobals "int" = some none) (z9 : PySem.W.nsIn K mainGlobals "isinstance" = some none) (z10 : PySem.W.nsIn K mainGlobals "str" = some none) (z11 : PySem.W.nsIn K mainGlobals "all" = some none) (z12 : PySem.W.nsIn K mainGlobals "set" = some none) (z13 : PySem.W.nsIn K mainGlobals "sorted" = some none) (z14 : PySem.W.nsIn K mainGlobals "dict" = some none) (z15 : PySem.W.nsIn K mainGlobals "zip" = some none) :
    ∃ fd : FuncData, (∀ (s : Shared) (v : Value), BindsTo s fd ⟨[v], []⟩ [("script", v)]) ∧ ∀ base : Heap, K.In base → base.Ns mainGlobals mg → FnG l.prog w K mg base CX0 9 fa fd ["script"] (spLaw K) := by
  have e := hfa.symm.trans (PySem.W.mg_of X G a33)
  cases e
  have F1 := fun_mk (st := sName) l1 c1 k1
  have b1 := F1.binds (ps := ["value"]) fun _ _ _ _ _ _ us hl => match us, hl with | [_], _ => rfl
  have m1 := PySem.W.mg_of X G a1
  have F2 := fun_mk (st := sFolders) l2 c2 k2
  have b2 := F2.binds (ps := ["value"]) fun _ _ _ _ _ _ us hl => match us, hl with | [_], _ => rfl
  have m2 := PySem.W.mg_of X G a2
  have F3 := fun_mk (st := sOneOf) l3 c3 k3
  have b3 := F3.binds (ps := ["value", "folders"]) fun _ _ _ _ _ _ us hl => match us, hl with | [_, _], _ => rfl
  have m3 := PySem.W.mg_of X G a3
  have F4 := fun_mk (st := sAreDifferent) l4 c4 k4
  have b4 := F4.binds (ps := ["names", "folders"]) fun _ _ _ _ _ _ us hl => match us, hl with | [_, _], _ => rfl
  have m4 := PySem.W.mg_of X G a4
  have F5 := fun_mk (st := sSomeOf) l5 c5 k5
  have b5 := F5.binds (ps := ["value", "folders"]) fun _ _ _ _ _ _ us hl => match us, hl with | [_, _], _ => rfl
  have m5 := PySem.W.mg_of X G a5
  have F6 := fun_mk (st := sHasNames) l6 c6 k6
  have b6 := F6.binds (ps := ["value"]) fun _ _ _ _ _ _ us hl => match us, hl with | [_], _ => rfl
  have m6 := PySem.W.mg_of X G a6
  have F7 := fun_mk (st := sChkF) l7 c7 k7
  have b7 := F7.binds (ps := ["folders"]) fun _ _ _ _ _ _ us hl => match us, hl with | [_], _ => rfl
  have m7 := PySem.W.mg_of X G a7
  have F8 := fun_mk (st := sChkN) l8 c8 k8
  have b8 := F8.binds (ps := ["name", "folders"]) fun _ _ _ _ _ _ us hl => match us, hl with | [_, _], _ => rfl
  have m8 := PySem.W.mg_of X G a8
  have F9 := fun_mk (st := sCopy) l9 c9 k9
  have b9 := F9.binds (ps := ["value"]) fun _ _ _ _ _ _ us hl => match us, hl with | [_], _ => rfl
  have m9 := PySem.W.mg_of X G a9
  have F10 := fun_mk (st := sScript) l10 c10 k10
  have b10 := F10.binds (ps := ["value"]) fun _ _ _ _ _ _ us hl => match us, hl with | [_], _ => rfl
  have m10 := PySem.W.mg_of X G a10
  have F11 := fun_mk (st := sChkS) l11 c11 k11
  have b11 := F11.binds (ps := ["copies", "folders"]) fun _ _ _ _ _ _ us hl => match us, hl with | [_, _], _ => rfl
  have m11 := PySem.W.mg_of X G a11
  have F12 := fun_mk (st := sJoin) l12 c12 k12
  have b12 := F12.binds (ps := ["ahead", "behind"]) fun _ _ _ _ _ _ us hl => match us, hl with | [_, _], _ => rfl
  have m12 := PySem.W.mg_of X G a12
  have F13 := fun_mk (st := sFstL) l13 c13 k13
  have b13 := F13.binds (ps := ["folders"]) fun _ _ _ _ _ _ us hl => match us, hl with | [_], _ => rfl
  have m13 := PySem.W.mg_of X G a13
  have F14 := fun_mk (st := sBehind) l14 c14 k14
  have b14 := F14.binds (ps := ["lists", "copies"]) fun _ _ _ _ _ _ us hl => match us, hl with | [_, _], _ => rfl
  have m14 := PySem.W.mg_of X G a14
  have F15 := fun_mk (st := sLists) l15 c15 k15
  have b15 := F15.binds (ps := ["folders", "copies"]) fun _ _ _ _ _ _ us hl => match us, hl with | [_, _], _ => rfl
  have m15 := PySem.W.mg_of X G a15
  have F16 := fun_mk (st := sList) l16 c16 k16
  have b16 := F16.binds (ps := ["folders", "copies", "name"]) fun _ _ _ _ _ _ us hl => match us, hl with | [_, _, _], _ => rfl
  have m16 := PySem.W.mg_of X G a16
  have F17 := fun_mk (st := sHeads) l17 c17 k17
  have b17 := F17.binds (ps := ["folders", "copies"]) fun _ _ _ _ _ _ us hl => match us, hl with | [_, _], _ => rfl
  have m17 := PySem.W.mg_of X G a17
  have F18 := fun_mk (st := sPath) l18 c18 k18
  have b18 := F18.binds (ps := ["value"]) fun _ _ _ _ _ _ us hl => match us, hl with | [_], _ => rfl
  have m18 := PySem.W.mg_of X G a18
  have F19 := fun_mk (st := sFiles) l19 c19 k19
  have b19 := F19.binds (ps := ["value"]) fun _ _ _ _ _ _ us hl => match us, hl with | [_], _ => rfl
  have m19 := PySem.W.mg_of X G a19
  have F20 := fun_mk (st := sCont) l20 c20 k20
  have b20 := F20.binds (ps := ["value"]) fun _ _ _ _ _ _ us hl => match us, hl with | [_], _ => rfl
  have m20 := PySem.W.mg_of X G a20
  have F21 := fun_mk (st := sCheckContents) l21 c21 k21
  have b21 := F21.binds (ps := ["contents"]) fun _ _ _ _ _ _ us hl => match us, hl with | [_], _ => rfl
  have m21 := PySem.W.mg_of X G a21
  have F22 := fun_mk (st := sSrtF) l22 c22 k22
  have b22 := F22.binds (ps := ["files"]) fun _ _ _ _ _ _ us hl => match us, hl with | [_], _ => rfl
  have m22 := PySem.W.mg_of X G a22
  have F23 := fun_mk (st := sRun) l23 c23 k23
  have b23 := F23.binds (ps := ["contents", "copies"]) fun _ _ _ _ _ _ us hl => match us, hl with | [_, _], _ => rfl
  have m23 := PySem.W.mg_of X G a23
  have F24 := fun_mk (st := sWin) l24 c24 k24
  have b24 := F24.binds (ps := ["folders", "copies", "name", "having"]) fun _ _ _ _ _ _ us hl => match us, hl with | [_, _, _, _], _ => rfl
  have m24 := PySem.W.mg_of X G a24
  have F25 := fun_mk (st := sJar) l25 c25 k25
  have b25 := F25.binds (ps := ["cells", "k"]) fun _ _ _ _ _ _ us hl => match us, hl with | [_, _], _ => rfl
  have m25 := PySem.W.mg_of X G a25
  have F26 := fun_mk (st := sDip) l26 c26 k26
  have b26 := F26.binds (ps := ["jar", "many"]) fun _ _ _ _ _ _ us hl => match us, hl with | [_, _], _ => rfl
  have m26 := PySem.W.mg_of X G a26
  have F27 := fun_mk (st := sNames) l27 c27 k27
  have b27 := F27.binds (ps := ["jar", "many"]) fun _ _ _ _ _ _ us hl => match us, hl with | [_, _], _ => rfl
  have m27 := PySem.W.mg_of X G a27
  have F28 := fun_mk (st := sPlan) l28 c28 k28
  have b28 := F28.binds (ps := ["jar", "names_here", "most"]) fun _ _ _ _ _ _ us hl => match us, hl with | [_, _, _], _ => rfl
  have m28 := PySem.W.mg_of X G a28
  have F29 := fun_mk (st := sLPath) l29 c29 k29
  have b29 := F29.binds (ps := ["jar"]) fun _ _ _ _ _ _ us hl => match us, hl with | [_], _ => rfl
  have m29 := PySem.W.mg_of X G a29
  have F30 := fun_mk (st := sLCont) l30 c30 k30
  have b30 := F30.binds (ps := ["jar", "names_here", "most"]) fun _ _ _ _ _ _ us hl => match us, hl with | [_, _, _], _ => rfl
  have m30 := PySem.W.mg_of X G a30
  have F31 := fun_mk (st := sFilesR) l31 c31 k31
  have b31 := F31.binds (ps := ["contents_here", "plan"]) fun _ _ _ _ _ _ us hl => match us, hl with | [_, _], _ => rfl
  have m31 := PySem.W.mg_of X G a31
  have F32 := fun_mk (st := sListsR) l32 c32 k32
  have b32 := F32.binds (ps := ["jar", "names_here", "plan"]) fun _ _ _ _ _ _ us hl => match us, hl with | [_, _, _], _ => rfl
  have m32 := PySem.W.mg_of X G a32
  have F33 := fun_mk (st := sLaw) l33 c33 k33
  have B : Bl mg := ⟨PySem.W.mg_none_of X G z1, PySem.W.mg_none_of X G z2, PySem.W.mg_none_of X G z3, PySem.W.mg_none_of X G z4, PySem.W.mg_none_of X G z5, PySem.W.mg_none_of X G z6, PySem.W.mg_none_of X G z7, PySem.W.mg_none_of X G z8, PySem.W.mg_none_of X G z9, PySem.W.mg_none_of X G z10, PySem.W.mg_none_of X G z11, PySem.W.mg_none_of X G z12, PySem.W.mg_none_of X G z13, PySem.W.mg_none_of X G z14, PySem.W.mg_none_of X G z15⟩
  have GB : Gb K mg := ⟨⟨_, (PySem.W.mg_of X G w1)⟩, ⟨_, (PySem.W.mg_of X G w4)⟩, _, (PySem.W.mg_of X G w3), fun H => .inr ⟨_, _, _, wl3, rfl, rfl, by rw [we3]; exact (by decide : 2 ≤ sizeLine), by rw [we3]; exact .cons ⟨_, rfl⟩ (.cons ⟨_, rfl⟩ .nil)⟩⟩
  have GM : Gm mg := ⟨⟨_, (PySem.W.mg_of X G w2)⟩⟩
  have GC : Gc mg := ⟨⟨_, (PySem.W.mg_of X G w5)⟩, ⟨_, (PySem.W.mg_of X G w6)⟩, ⟨_, (PySem.W.mg_of X G w7)⟩, ⟨_, (PySem.W.mg_of X G w2)⟩⟩
  refine ⟨PySem.W.fnOf "law" "law" (defArgs sLaw) (defBody sLaw) (defScope sLaw) .none kV33 dc33 pm33 an33 cd33 ct33, fun s v => .of_eq rfl, fun base _ _ => ?_⟩
  have DNm : Has l.prog w K mg base CX0 1 "is_name" ["value"] (spD K isNameD) := has_of (ok_name F1 B GB) m1 F1 b1
  have DFo : Has l.prog w K mg base CX0 2 "are_folders" ["value"] (spD K areFoldersD) := has_of (ok_folders F2 B GM DNm) m2 F2 b2
  have DCf : Has l.prog w K mg base CX0 3 "check_folders" ["folders"] (spOk K areFoldersD) := has_of (ok_chkF F7 DFo) m7 F7 b7
  have DC : Has l.prog w K mg base CX0 2 "is_copy" ["value"] (spD K isCopyD) := has_of (ok_copy F9 B GB DNm) m9 F9 b9
  have DSc : Has l.prog w K mg base CX0 3 "is_script" ["value"] (spD K isScriptD) := has_of (ok_script F10 B GB DC) m10 F10 b10
  have DCs : Has l.prog w K mg base CX0 4 "check_script" ["copies", "folders"] (spChkS K) := has_of (ok_chkS F11 B DSc) m11 F11 b11
  have DJo : Has l.prog w K mg base CX0 1 "joined_behind" ["ahead", "behind"] spJoin := has_of (ok_join F12) m12 F12 b12
  have DFi : Has l.prog w K mg base CX0 1 "first_lists" ["folders"] (spFstL K) := has_of (ok_fstL F13 B) m13 F13 b13
  have DBe : Has l.prog w K mg base CX0 2 "lists_behind" ["lists", "copies"] (spBehind K) := has_of (ok_behind F14 B DJo) m14 F14 b14
  have OL := ok_lists (P := l.prog) (w := w) (base := base) F15 DCf DCs DFi DBe
  have DL : Has l.prog w K mg base CX0 5 "lists_of" ["folders", "copies"] (spLists K) := has_of (OL) m15 F15 b15
  have DOg : Has l.prog w K mg base CX0 1 "is_one_of" ["value", "folders"] (spOneG K) := has_of (ok_oneG F3 B) m3 F3 b3
  have DDf : Has l.prog w K mg base CX0 2 "are_different" ["names", "folders"] (spDiffG K) := has_of (ok_diffG F4 B DOg) m4 F4 b4
  have DSg : Has l.prog w K mg base CX0 3 "are_some_of" ["value", "folders"] (spSomeG K) := has_of (ok_someG F5 B DDf) m5 F5 b5
  have DOo := has_weak DOg one_weak
  have DSo := has_weak DSg some_weak
  have DCn : Has l.prog w K mg base CX0 2 "check_name" ["name", "folders"] (spChkN K) := has_of (ok_chkN F8 DOo) m8 F8 b8
  have DI : Has l.prog w K mg base CX0 6 "list_of" ["folders", "copies", "name"] (spList K) := has_of (ok_list F16 DL DCn) m16 F16 b16
  have DH : Has l.prog w K mg base CX0 6 "heads_of" ["folders", "copies"] (spHeads K) := has_of (ok_heads F17 DL) m17 F17 b17
  have DW : Has l.prog w K mg base CX0 7 "winner" ["folders", "copies", "name", "having"] (spWin K) := has_of (ok_win F24 B DI DSo) m24 F24 b24
  have DPt : Has l.prog w K mg base CX0 1 "is_path" ["value"] spPath := has_of (ok_path F18 B GC) m18 F18 b18
  have DFil : Has l.prog w K mg base CX0 2 "are_files" ["value"] spFiles := has_of (ok_files F19 B GC DPt) m19 F19 b19
  have DHn : Has l.prog w K mg base CX0 2 "has_names" ["value"] (spHasN K) := has_of (ok_hasN F6 B ⟨_, (PySem.W.mg_of X G w2)⟩ DNm) m6 F6 b6
  have DCt : Has l.prog w K mg base CX0 3 "are_contents" ["value"] spCont := has_of (ok_cont F20 B DHn DFil) m20 F20 b20
  have DSf : Has l.prog w K mg base CX0 1 "sorted_files" ["files"] spSrtF := has_of (ok_srtF F22 B) m22 F22 b22
  have DCkc : Has l.prog w K mg base CX0 4 "check_contents" ["contents"] spChkCt := has_of (ok_chkCt F21 DCt) m21 F21 b21
  have OR := ok_run (P := l.prog) (w := w) (base := base) F23 B DCkc DCs DSf
  have DR : Has l.prog w K mg base CX0 5 "run" ["contents", "copies"] (spRun K) := has_of (OR) m23 F23 b23
  have DJ : Has l.prog w K mg base CX0 1 "_law_jar" ["cells", "k"] (spJar K) := has_of (ok_jar F25 B) m25 F25 b25
  have DD : Has l.prog w K mg base CX0 1 "_law_dip" ["jar", "many"] spDip := has_of (ok_dip F26) m26 F26 b26
  have DN : Has l.prog w K mg base CX0 2 "_law_names" ["jar", "many"] spNames := has_of (ok_names F27 B DD) m27 F27 b27
  have DP : Has l.prog w K mg base CX0 2 "_law_plan" ["jar", "names_here", "most"] (spPlan K) := has_of (ok_plan F28 B DD) m28 F28 b28
  have DLp : Has l.prog w K mg base CX0 2 "_law_path" ["jar"] spLP := has_of (ok_lpath F29 B DD) m29 F29 b29
  have DLc : Has l.prog w K mg base CX0 3 "_law_contents" ["jar", "names_here", "most"] (spLC K) := has_of (ok_lcont F30 B DD DLp) m30 F30 b30
  have DFr : Has l.prog w K mg base CX0 8 "_law_files_right" ["contents_here", "plan"] (spFr K) := has_of (ok_filesR F31 B DR DW) m31 F31 b31
  have DLr : Has l.prog w K mg base CX0 8 "_law_lists_right" ["jar", "names_here", "plan"] (spLr K) := has_of (ok_listsR F32 B DD DI DH DL DW) m32 F32 b32
  exact FnG.of (ok_law F33 B DJ DD DN DP DLc DFr DLr DR DCt)
end Cv
open PySem PySem.W PyProof.Rows
set_option maxHeartbeats 0 in
theorem PySem.Challenge.cw_copyover_k11_whole_contents_and_lists_holds : PySem.Challenge.rw_copyover_k11_whole_contents_and_lists.Holds := by
  w_on; o_law; k_head; (case hw => w_witness2)
  k_fill
  refine Cv.walk_gd (l := PySem.Challenge.rw_copyover_k11_whole_contents_and_lists) (n := 63) (k := 9) (x := "script") (CX := fun _ => L2.CX0) (sp := fun w => Cv.spLaw _) rfl (by decide) rfl ⟨rfl, by decide, by decide⟩ (fun w h Y => PySem.W.kIn_of Y) ?F (fun _ _ a ns hl _ hS => ⟨a, ns, rfl, hS, hl, fun _ => rfl⟩) (fun _ _ _ _ _ h => h)
  case F =>
    intro w mg fa h KX G hmg
    refine' Cv.all_mk KX G hmg ?a1 ?l1 ?c1 ?k1 ?a2 ?l2 ?c2 ?k2 ?a3 ?l3 ?c3 ?k3 ?a4 ?l4 ?c4 ?k4 ?a5 ?l5 ?c5 ?k5 ?a6 ?l6 ?c6 ?k6 ?a7 ?l7 ?c7 ?k7 ?a8 ?l8 ?c8 ?k8 ?a9 ?l9 ?c9 ?k9 ?a10 ?l10 ?c10 ?k10 ?a11 ?l11 ?c11 ?k11 ?a12 ?l12 ?c12 ?k12 ?a13 ?l13 ?c13 ?k13 ?a14 ?l14 ?c14 ?k14 ?a15 ?l15 ?c15 ?k15 ?a16 ?l16 ?c16 ?k16 ?a17 ?l17 ?c17 ?k17 ?a18 ?l18 ?c18 ?k18 ?a19 ?l19 ?c19 ?k19 ?a20 ?l20 ?c20 ?k20 ?a21 ?l21 ?c21 ?k21 ?a22 ?l22 ?c22 ?k22 ?a23 ?l23 ?c23 ?k23 ?a24 ?l24 ?c24 ?k24 ?a25 ?l25 ?c25 ?k25 ?a26 ?l26 ?c26 ?k26 ?a27 ?l27 ?c27 ?k27 ?a28 ?l28 ?c28 ?k28 ?a29 ?l29 ?c29 ?k29 ?a30 ?l30 ?c30 ?k30 ?a31 ?l31 ?c31 ?k31 ?a32 ?l32 ?c32 ?k32 ?a33 ?l33 ?c33 ?k33 ?w1 ?w2 ?w3 ?wl3 ?we3 ?w4 ?w5 ?w6 ?w7 ?z1 ?z2 ?z3 ?z4 ?z5 ?z6 ?z7 ?z8 ?z9 ?z10 ?z11 ?z12 ?z13 ?z14 ?z15
    (case a1 => k_is); (case l1 => k_is); (case c1 => k_is); (case k1 => k_is); (case a2 => k_is); (case l2 => k_is); (case c2 => k_is); (case k2 => k_is); (case a3 => k_is); (case l3 => k_is); (case c3 => k_is); (case k3 => k_is); (case a4 => k_is); (case l4 => k_is); (case c4 => k_is); (case k4 => k_is); (case a5 => k_is); (case l5 => k_is); (case c5 => k_is); (case k5 => k_is); (case a6 => k_is); (case l6 => k_is); (case c6 => k_is); (case k6 => k_is); (case a7 => k_is); (case l7 => k_is); (case c7 => k_is); (case k7 => k_is); (case a8 => k_is); (case l8 => k_is); (case c8 => k_is); (case k8 => k_is); (case a9 => k_is); (case l9 => k_is); (case c9 => k_is); (case k9 => k_is); (case a10 => k_is); (case l10 => k_is); (case c10 => k_is); (case k10 => k_is); (case a11 => k_is); (case l11 => k_is); (case c11 => k_is); (case k11 => k_is); (case a12 => k_is); (case l12 => k_is); (case c12 => k_is); (case k12 => k_is); (case a13 => k_is); (case l13 => k_is); (case c13 => k_is); (case k13 => k_is); (case a14 => k_is); (case l14 => k_is); (case c14 => k_is); (case k14 => k_is); (case a15 => k_is); (case l15 => k_is); (case c15 => k_is); (case k15 => k_is); (case a16 => k_is); (case l16 => k_is); (case c16 => k_is); (case k16 => k_is); (case a17 => k_is); (case l17 => k_is); (case c17 => k_is); (case k17 => k_is); (case a18 => k_is); (case l18 => k_is); (case c18 => k_is); (case k18 => k_is); (case a19 => k_is); (case l19 => k_is); (case c19 => k_is); (case k19 => k_is); (case a20 => k_is); (case l20 => k_is); (case c20 => k_is); (case k20 => k_is); (case a21 => k_is); (case l21 => k_is); (case c21 => k_is); (case k21 => k_is); (case a22 => k_is); (case l22 => k_is); (case c22 => k_is); (case k22 => k_is); (case a23 => k_is); (case l23 => k_is); (case c23 => k_is); (case k23 => k_is); (case a24 => k_is); (case l24 => k_is); (case c24 => k_is); (case k24 => k_is); (case a25 => k_is); (case l25 => k_is); (case c25 => k_is); (case k25 => k_is); (case a26 => k_is); (case l26 => k_is); (case c26 => k_is); (case k26 => k_is); (case a27 => k_is); (case l27 => k_is); (case c27 => k_is); (case k27 => k_is); (case a28 => k_is); (case l28 => k_is); (case c28 => k_is); (case k28 => k_is); (case a29 => k_is); (case l29 => k_is); (case c29 => k_is); (case k29 => k_is); (case a30 => k_is); (case l30 => k_is); (case c30 => k_is); (case k30 => k_is); (case a31 => k_is); (case l31 => k_is); (case c31 => k_is); (case k31 => k_is); (case a32 => k_is); (case l32 => k_is); (case c32 => k_is); (case k32 => k_is); (case a33 => k_is); (case l33 => k_is); (case c33 => k_is); (case k33 => k_is); (case w1 => k_is); (case w2 => k_is); (case w3 => k_is); (case wl3 => k_is); (case we3 => rfl); (case w4 => k_is); (case w5 => k_is); (case w6 => k_is); (case w7 => k_is); (case z1 => k_is); (case z2 => k_is); (case z3 => k_is); (case z4 => k_is); (case z5 => k_is); (case z6 => k_is); (case z7 => k_is); (case z8 => k_is); (case z9 => k_is); (case z10 => k_is); (case z11 => k_is); (case z12 => k_is); (case z13 => k_is); (case z14 => k_is); (case z15 => k_is)
