import PyProof.Rows.All
import Wide.All
import OpenK.AllK
import Wide.FinOn
import PyProof.ReprRoads
import KE.GoesMore
import HandS.ForMost
import HandS.Evl
import HandS.IsInst
import HandS.Zip
import HandS.WideBits
import HandS.EndBits
import HandS.More
import HandS.Walk
import HandS.TupAny
import HandS.ExcInit
import HandS.ExcIs
import HandS.ExcField
import HandS.WordsExc
import KE.KExcSuper
import KE.KExcInit
import HandS.ExcOwn
import PyProof.ExcBaseAll.LookupError
import HandS.OwnEq
import HandS.NamedTupGet
import HandS.CallSlots
import HandS.Defaults
import HandS.MakeKwOnly
import HandS.FStr
import KE.KExcIs
import HandS.Style
import HandS.DictComp
import HandS.Small
import KE.SortData
import PyProof.Rows.StrMeet
import PyProof.Rows.SortWalk
import HandS.HotCalls
import KE.KEqDict
import PyProof.NeKinds
import PyProof.P3In
import KE.DataMinMax
import KE.KFmtOwn
import KE.KCallOwn
import PyProof.CallFns
import KE.KEqNest
import HandS.Codes
import KE.Datum
import HandS.SetFor
import HandS.ClsMeth
import HandS.Lambda
import HandS.EndTab
import HandS.List
import HandS.Base
import HandS.TupSets
import KE.KNestM
import PySem.Challenge.RW_cycleready_k21_needs_recorded_and_delete
set_option Elab.async false
set_option linter.all false
set_option maxRecDepth 100000
set_option maxHeartbeats 4000000
/-! Cr, part 1: promises of defs that hold where no repr is under way (so that repr may be asked inside of them). -/
namespace Cr
open PySem PySem.Spec PyProof.Rows L2 Evl
/-- nothing is being shown around -/
abbrev Quiet (A : Around) : Prop := A.guards = some []
/-- a def's promise, kept where it is quiet -/
structure FnG (P : Program) (w : World) (K : PySem.W.Frag) (mg : Str → Option Value) (base : Heap) (CX : CXT) (k : Nat) (f : Addr) (fd : FuncData) (ps : List Str) (sp : Sp) : Prop where
  sized : ∀ vs H Q E, sp vs H Q E → vs.length = ps.length
  goes : ∀ (A : Around) (outer : List Env) (s : Shared) (H : Hp) (args : Args) (us : List Value) (vs : List V) (Q : VK) (E : XK),
    Quiet A → Room k A → Env0 P w K mg base A outer s H → BindsTo s fd args (ps.zip us) → Vals vs us → sp vs H Q E →
    codeAny (model P w) A (.call (.ref f) args) (CR CX outer P w H s Q E) s
section
variable {P : Program} {w : World} {K : PySem.W.Frag} {mg : Str → Option Value} {base : Heap}
theorem FnG.up {CX : CXT} {j k : Nat} {f : Addr} {fd : FuncData} {ps : List Str} {sp : Sp}
    (F : FnG P w K mg base CX j f fd ps sp) (le : j ≤ k) : FnG P w K mg base CX k f fd ps sp :=
  ⟨F.sized, fun A outer s H args us vs Q E hq hr e hb r h => F.goes A outer s H args us vs Q E hq (hr.mono le) e hb r h⟩
/-- a def by its body, where it is quiet -/
theorem okG {x qual : Str} {st : Stmt} {f : Addr} {fd : FuncData} {N ps : List Str} {k : Nat} {sp : Sp}
    (F : Fun K x qual st f fd) (S : FnScope N ps (defScope st)) (len : ∀ vs H Q E, sp vs H Q E → vs.length = ps.length)
    (hbody : ∀ (cdv : Value) (A : Around) (outer : List Env) (s : Shared) (H : Hp) (vs : List V) (Q : VK) (E : XK),
      Quiet (A.deeper (envOfC qual (defScope st) s.heap.objs.size f cdv)) →
      Room k (A.deeper (envOfC qual (defScope st) s.heap.objs.size f cdv)) → sp vs H Q E →
      ∃ t, PSs (cxOf CX0 P w K mg base N qual (defScope st) f cdv A outer s H E).nox (defBody st) t ∧
        t { nx := fun _ H' => Q .non H', rt := Q } (start N vs) H) :
    FnG P w K mg base CX0 (k + 1) f fd ps sp := by
  obtain ⟨oc, od, kV, doc, pm, an, cdv, ct, osl, rfl, lk, hcd⟩ := F.ex
  refine ⟨len, fun A outer s H args us vs Q E hq hr e0 hb r hsp => ?_⟩
  have keepB : ∀ b o, base.get? b = some o → s.heap.get? b = some o := fun b o e => (e0.bs b o e).1
  have kinds : ((ps.zip us).all fun y => (defScope st).names.lookup y.1 == some .local || (defScope st).names.lookup y.1 == some .cell) = true := by
    refine List.all_eq_true.mpr fun y hy => ?_
    obtain ⟨n, v⟩ := y
    rcases S.par n (List.of_mem_zip hy).1 with z | z
    · simp [z]
    · simp [z]
  refine Att.call_fn (binds := ps.zip us) (e0.mod.kin.keeps keepB) (e0.mod.nolimit.keeps keepB) lk hcd hr.depth hb kinds (fun s1 IC => ?_) S.co S.gen S.kind
  obtain ⟨t, ht, hT⟩ := hbody cdv A outer s H vs Q E hq (hr.deeper _) hsp
  have I := inv_start (CX := CX0) (E := E) S hr.hd e0 (len _ _ _ _ hsp) r IC
  refine wpAny_mono (ht.nox.run [] s1 (start N vs) H _ I hT) (fun fl s2 h2 => ?_) fun e s2 h2 => h2
  match fl, h2 with
  | .ret u, ⟨v, σ2, H2, J, rv, q⟩ => exact ⟨v, H2, J.os, J.bare, J.base, J.hok, rv, q⟩
  | .next, ⟨σ2, H2, J, q⟩ => exact ⟨V.non, H2, J.os, J.bare, J.base, J.hok, rfl, q⟩
  | .brk, ⟨_, _, _, q⟩ => exact q.elim
  | .cont, ⟨_, _, _, q⟩ => exact q.elim
end
section
variable {X : Cx} {CX : CXT} {k : Nat} {f : Addr} {fd : FuncData} {ps : List Str} {sp : Sp} {dvs : List V} {ds : List Value} {E : XK}
/-- the callee, called where it is quiet -/
theorem runG {pins : List (Addr × Obj)} {σ : L2.St} {H : Hp} {s : Shared} {Q : VK} {us : List Value} {vs : List V}
    (F : FnG X.prog X.w X.K X.mg X.base CX k f fd ps sp) (hq : Quiet X.A) (hr : Room k X.A) (hb : Binds X.K fd ps ds) (hd : Vals dvs ds)
    (hx : Passes CX X E) (I : Inv X pins σ H s) (r : Vals vs us) (h : sp (vs ++ dvs) H Q E) :
    wpAny (model X.prog X.w) X.A (call (.ref f) us) (EP X pins σ Q) X.xe s := by
  have rr : Vals (vs ++ dvs) (us ++ ds) := Vals.append r hd
  have nn : (us ++ ds).length = ps.length := rr.length.symm.trans (F.sized _ _ _ _ h)
  have c := F.goes X.A X.stack s H ⟨us, []⟩ (us ++ ds) (vs ++ dvs) Q E hq hr (Inv.env0 I) (hb s us I.kIn nn) rr h
  refine wpAny_call (codeAny_mono c fun res s2 z => ?_)
  match res, z with
  | .error e, z => exact hx pins σ H s e s2 I z
  | .ok (.ret u), z => exact Inv.after I z
  | .ok .next, z => exact False.elim z
  | .ok .brk, z => exact False.elim z
  | .ok .cont, z => exact False.elim z
variable {x : Str} {p pos : Pos} {e : Expr} {es : List Expr} {t : TA}
theorem callG (F : FnG X.prog X.w X.K X.mg X.base CX k f fd ps sp) (hq : Quiet X.A) (hr : Room k X.A) (hg : Gl X x)
    (hm : X.mg x = some (.ref f)) (hk : PySem.W.keepIn X.K (.ref f) = true) (hb : Binds X.K fd ps ds) (hd : Vals dvs ds) (hx : Passes CX X E)
    (ha : PA X (e :: es) t) (hdb : (x == ("__debug__" : Str)) = false := by decide)
    (he : starEach (e :: es) X.env = (false, eval e X.env) :: starEach es X.env := by rfl)
    (hpl : (backTo pos (starEach es X.env)).any (·.1) = false := by rfl) :
    PE X (.Call (.Name x p) (e :: es) [] pos) (tCall sp dvs E t) := by
  constructor
  intro pins s σ H Q I h
  refine wpAny_Call_Name_kw (ld_glob I hg hm ?_ hdb)
  refine PySem.W.callWith_K (h₀ := X.base) I.ok.mod.kin hk ?_ he hpl
  refine thn (ha.run pos pins s σ H _ I h) ?_
  rintro us s1 ⟨vs, H1, I1, r, q⟩
  exact ⟨I1.kIn, runG F hq hr hb hd hx I1 r q⟩
end
/-! ### the law's own call -/
end Cr
/-! Cr, part 2: data in the abstract heap, repr of it, isinstance of it. -/
namespace Cr
open PySem PySem.Spec PyProof.Rows L2 Evl
def kD : Key → PyData
  | .inl i => .int i
  | .inr x => .str x
mutual
/-- the value v is the data d, all of it tracked -/
inductive Dt (H : Hp) : V → PyData → Prop
  | non : Dt H .non .none
  | bl (b : Bool) : Dt H (.bl b) (.bool b)
  | int (i : Int) : Dt H (.int i) (.int i)
  | str (x : Str) : Dt H (.str x) (.str x)
  | lst {a : Addr} {xs : List V} {ds : List PyData} : H a = some (.lst xs) → DtAll H xs ds → Dt H (.ref a) (.list ds)
  | tup {a : Addr} {xs : List V} {ds : List PyData} : H a = some (.tup xs) → DtAll H xs ds → Dt H (.ref a) (.tuple ds)
  | dct {a : Addr} {kvs : List (Key × V)} {es : List (PyData × PyData)} : H a = some (.dK kvs) → DtKv H kvs es → Dt H (.ref a) (.dict es)
inductive DtAll (H : Hp) : List V → List PyData → Prop
  | nil : DtAll H [] []
  | cons {v : V} {vs : List V} {d : PyData} {ds : List PyData} : Dt H v d → DtAll H vs ds → DtAll H (v :: vs) (d :: ds)
inductive DtKv (H : Hp) : List (Key × V) → List (PyData × PyData) → Prop
  | nil : DtKv H [] []
  | cons {k : Key} {v : V} {kvs : List (Key × V)} {d : PyData} {es : List (PyData × PyData)} : Dt H v d → DtKv H kvs es → DtKv H ((k, v) :: kvs) ((kD k, d) :: es)
end
mutual
theorem Dt.ex {H H' : Hp} (e : Ex H H') : ∀ {v : V} {d : PyData}, Dt H v d → Dt H' v d
  | _, _, .non => .non
  | _, _, .bl b => .bl b
  | _, _, .int i => .int i
  | _, _, .str x => .str x
  | _, _, .lst h a => .lst (e _ _ h) (DtAll.ex e a)
  | _, _, .tup h a => .tup (e _ _ h) (DtAll.ex e a)
  | _, _, .dct h a => .dct (e _ _ h) (DtKv.ex e a)
theorem DtAll.ex {H H' : Hp} (e : Ex H H') : ∀ {vs : List V} {ds : List PyData}, DtAll H vs ds → DtAll H' vs ds
  | _, _, .nil => .nil
  | _, _, .cons h t => .cons (Dt.ex e h) (DtAll.ex e t)
theorem DtKv.ex {H H' : Hp} (e : Ex H H') : ∀ {kvs : List (Key × V)} {es : List (PyData × PyData)}, DtKv H kvs es → DtKv H' kvs es
  | _, _, .nil => .nil
  | _, _, .cons h t => .cons (Dt.ex e h) (DtKv.ex e t)
end
theorem DtAll.length {H : Hp} : ∀ {vs : List V} {ds : List PyData}, DtAll H vs ds → vs.length = ds.length
  | _, _, .nil => rfl
  | _, _, .cons _ t => by simp [DtAll.length t]
theorem DtKv.len {H : Hp} : ∀ {kvs : List (Key × V)} {ds : List (PyData × PyData)}, DtKv H kvs ds → kvs.length = ds.length
  | _, _, .nil => rfl
  | _, _, .cons _ t => by simp [DtKv.len t]
theorem DtAll.get {H : Hp} : ∀ {vs : List V} {ds : List PyData} {i : Nat} {v : V}, DtAll H vs ds → vs[i]? = some v → ∃ d, ds[i]? = some d ∧ Dt H v d
  | _, _, _, _, .nil, h => by simp at h
  | _, _, 0, _, .cons h _, e => by simp at e; subst e; exact ⟨_, rfl, h⟩
  | _, _, i + 1, _, .cons _ t, e => by
    obtain ⟨d, h1, h2⟩ := DtAll.get (i := i) t (by simpa using e)
    exact ⟨d, by simpa using h1, h2⟩
theorem DtAll.append {H : Hp} : ∀ {vs ws : List V} {ds es : List PyData}, DtAll H vs ds → DtAll H ws es → DtAll H (vs ++ ws) (ds ++ es)
  | _, _, _, _, .nil, s => s
  | _, _, _, _, .cons h t, s => .cons h (DtAll.append t s)
theorem DtAll.drop {H : Hp} : ∀ {vs : List V} {ds : List PyData} (n : Nat), DtAll H vs ds → DtAll H (vs.drop n) (ds.drop n)
  | _, _, 0, h => h
  | _, _, _ + 1, .nil => .nil
  | _, _, n + 1, .cons _ t => DtAll.drop n t
theorem DtAll.take {H : Hp} : ∀ {vs : List V} {ds : List PyData} (n : Nat), DtAll H vs ds → DtAll H (vs.take n) (ds.take n)
  | _, _, 0, _ => .nil
  | _, _, _ + 1, .nil => .nil
  | _, _, n + 1, .cons h t => .cons h (DtAll.take n t)
theorem DtAll.set {H : Hp} {v : V} {d : PyData} (hv : Dt H v d) : ∀ {vs : List V} {ds : List PyData} (n : Nat), DtAll H vs ds → DtAll H (vs.set n v) (ds.set n d)
  | _, _, _, .nil => .nil
  | _, _, 0, .cons _ t => .cons hv t
  | _, _, n + 1, .cons h t => .cons h (DtAll.set hv n t)
/-! ### the heap without one object -/
def wo (p : Addr) (H : Hp) : Hp := fun a => if a = p then none else H a
theorem wo_ne {p a : Addr} {H : Hp} (h : a ≠ p) : wo p H a = H a := if_neg h
theorem wo_same {p : Addr} {H : Hp} : wo p H p = none := if_pos rfl
theorem wo_some {p a : Addr} {H : Hp} {o : HO} (h : wo p H a = some o) : a ≠ p ∧ H a = some o := by
  by_cases e : a = p
  · subst e
    rw [wo_same] at h
    cases h
  · rw [wo_ne e] at h
    exact ⟨e, h⟩
theorem wo_ex (p : Addr) (H : Hp) : Ex (wo p H) H := fun a o h => (wo_some h).2
theorem Ex.wo {p : Addr} {H H' : Hp} (e : Ex H H') : Ex (Cr.wo p H) (Cr.wo p H') := fun a o h => by
  obtain ⟨n, h⟩ := wo_some h
  rw [wo_ne n]
  exact e a o h
theorem wo_upd {p : Addr} {H H' : Hp} {o : HO} (e : Ex (wo p H) (wo p H')) : Ex (wo p H) (wo p (upd H' p o)) := fun a u h => by
  have n := (wo_some h).1
  have q := e a u h
  rw [wo_ne n] at q
  rw [wo_ne n, upd_ne n]
  exact q
/-! ### the kind of data -/
def tyT : PyData → String
  | .none => "NoneType"
  | .bool _ => "bool"
  | .int _ => "int"
  | .str _ => "str"
  | .list _ => "list"
  | .tuple _ => "tuple"
  | .dict _ => "dict"
theorem Dt.ty {K : PySem.W.Frag} {H : Hp} {v : V} {d : PyData} (h : Dt H v d) : TyX K H v (.type (tyT d)) := by
  cases h with
  | non => exact .base .non
  | bl b => exact .base (.bl b)
  | int i => exact .base (.int i)
  | str x => exact .base (.str x)
  | lst h _ => exact .base (.lst h)
  | tup h _ => exact .base (.tup h)
  | dct h _ => exact .base (.dK h)
/-- isinstance(v, T), T one of the plain types -/
def isTs (T t : String) : Bool := t == T || (T == "int" && t == "bool")
def isT (T : String) (d : PyData) : Bool := isTs T (tyT d)
theorem kitS : ∀ t ∈ ["NoneType", "bool", "int", "str", "list", "tuple", "dict"], ∀ T ∈ ["int", "bool", "str", "list", "tuple", "dict"], kitB t T = some (isTs T t) := by decide +kernel
theorem tyT_mem (d : PyData) : tyT d ∈ ["NoneType", "bool", "int", "str", "list", "tuple", "dict"] := by
  cases d <;> simp [tyT]
theorem kit_isT {K : PySem.W.Frag} {T : String} (hT : T ∈ ["int", "bool", "str", "list", "tuple", "dict"]) (d : PyData) :
    PySem.W.kitOne K (.type (tyT d)) (.type T) = some (isT T d) := kit_ty (kitS _ (tyT_mem d) _ hT)
/-- isinstance on data -/
theorem rc_isi {K : PySem.W.Frag} {H : Hp} {v : V} {d : PyData} {T : String} (h : Dt H v d) (hT : T ∈ ["int", "bool", "str", "list", "tuple", "dict"]) :
    RC (rIsi K) [v, .ty T] H (.bl (isT T d)) := fun H1 e Q q =>
  ⟨v, .ty T, .type (tyT d), .type T, isT T d, rfl, .ty T, (Dt.ex e h).ty, kit_isT hT d, q H1 (Ex.refl H1)⟩
/-! ### repr -/
section
variable {X : Cx} {pins : List (Addr × Obj)} {σ : L2.St} {H : Hp} {s : Shared}
/-- what is shown of a value, at any heap that keeps this one -/
def Shown (P : Program) (w : World) (h : Heap) (v : Value) (d : PyData) : Prop :=
  (∃ as, Reads h v d as) ∧ (d.showable = true → d.shown.length ≤ sizeLine → ∃ bs, ReadAtMost h d.depth bs ∧ ReprK P w bs h d.depth v d.shown)
def ShownAll (P : Program) (w : World) (h : Heap) (vs : List Value) (ds : List PyData) : Prop :=
  (∃ as, ReadsAll h vs ds as) ∧ (PyData.showableAll ds = true → (∀ t ∈ PyData.shownAll ds, t.length ≤ sizeLine) →
    ∃ bs, ReadAtMost h (PyData.depthAll ds) bs ∧ ReprAllK P w bs h (PyData.depthAll ds) vs (PyData.shownAll ds))
theorem ShownAll.nil {P : Program} {w : World} {h : Heap} : ShownAll P w h [] [] :=
  ⟨⟨_, .nil⟩, fun _ _ => ⟨[], (fun _ z => nomatch z), by rw [PyData.shownAll]; exact .nil⟩⟩
theorem ShownAll.cons {P : Program} {w : World} {h : Heap} {v : Value} {vs : List Value} {d : PyData} {ds : List PyData} (a : Shown P w h v d) (b : ShownAll P w h vs ds) : ShownAll P w h (v :: vs) (d :: ds) := by
  obtain ⟨⟨as, ra⟩, sa⟩ := a
  obtain ⟨⟨bs, rb⟩, sb⟩ := b
  refine ⟨⟨_, .cons ra rb⟩, fun hs hz => ?_⟩
  rw [PyData.showableAll, Bool.and_eq_true] at hs
  rw [PyData.shownAll] at hz
  obtain ⟨b1, m1, k1⟩ := sa hs.1 (hz _ (List.mem_cons_self ..))
  obtain ⟨b2, m2, k2⟩ := sb hs.2 fun t ht => hz t (List.mem_cons_of_mem _ ht)
  refine ⟨b1 ++ b2, ?_, ?_⟩
  · rw [PyData.depthAll]
    exact (m1.mono (Nat.le_max_left _ _)).append (m2.mono (Nat.le_max_right _ _))
  · rw [PyData.depthAll, PyData.shownAll]
    exact .cons ((k1.more fun b hb => List.mem_append_left _ hb).level_le (Nat.le_max_left _ _)) (k2.more_le (fun b hb => List.mem_append_right _ hb) (Nat.le_max_right _ _))
theorem Shown.list {P : Program} {w : World} {h : Heap} {a : Addr} {o : Obj} {vs : List Value} {n : Nat} {ds : List PyData} (g : h.get? a = some o) (c : o.cls = .type "list") (e : o.data = .seq vs.toArray n) (S : ShownAll P w h vs ds) : Shown P w h (.ref a) (.list ds) := by
  obtain ⟨⟨as, ra⟩, sa⟩ := S
  have R : Reads h (.ref a) (.list ds) (a :: as) := .list g c e (by simpa using ra)
  refine ⟨⟨_, R⟩, fun hs hz => ?_⟩
  rw [PyData.showable] at hs
  rw [PyData.shown] at hz
  obtain ⟨bs, m, k⟩ := sa hs fun t ht => Nat.le_trans (listText_mem_le ht) hz
  have no : a ∉ bs := not_mem_of_deeper R (by rw [PyData.depth]; omega) m
  refine ⟨a :: bs, ReadAtMost.cons R (by rw [PyData.depth]; omega) m, ?_⟩
  rw [PyData.depth, PyData.shown]
  cases vs with
  | nil =>
    cases ra
    rw [PyData.shownAll, listText_nil]
    exact ReprK.listEmpty g c e
  | cons x l => exact ReprK.list g c e no (by simpa using k.length_eq) fun i y q => k.item i y (by simpa using q)
theorem Shown.tuple {P : Program} {w : World} {h : Heap} {a : Addr} {o : Obj} {vs : List Value} {n : Nat} {ds : List PyData} (g : h.get? a = some o) (c : o.cls = .type "tuple") (e : o.data = .seq vs.toArray n) (S : ShownAll P w h vs ds) : Shown P w h (.ref a) (.tuple ds) := by
  obtain ⟨⟨as, ra⟩, sa⟩ := S
  have R : Reads h (.ref a) (.tuple ds) as := .tuple g c e (by simpa using ra)
  refine ⟨⟨_, R⟩, fun hs hz => ?_⟩
  rw [PyData.showable] at hs
  rw [PyData.shown] at hz
  obtain ⟨bs, m, k⟩ := sa hs fun t ht => Nat.le_trans (tupleText_mem_le ht) hz
  refine ⟨a :: bs, ReadAtMost.cons R (by rw [PyData.depth]; omega) m, ?_⟩
  rw [PyData.depth, PyData.shown]
  exact ReprK.tuple g c e (not_mem_of_deeper R (by rw [PyData.depth]; omega) m) (by simpa using k)
theorem Shown.dict {P : Program} {w : World} {h : Heap} {a : Addr} {o : Obj} {es : Array DictEntry} {n : Nat} {kvs : List (PyData × PyData)} (g : h.get? a = some o) (c : o.cls = .type "dict") (e : o.data = .dict es n) (sys : (a == sysModules) = false)
    (S1 : ShownAll P w h (es.toList.map (·.key)) (kvs.map (·.1))) (S2 : ShownAll P w h (es.toList.map (·.val)) (kvs.map (·.2))) : Shown P w h (.ref a) (.dict kvs) := by
  obtain ⟨⟨as, ra⟩, sa⟩ := S1
  obtain ⟨⟨bs, rb⟩, sb⟩ := S2
  have R : Reads h (.ref a) (.dict kvs) (a :: as ++ bs) := .dict g c e ra rb
  refine ⟨⟨_, R⟩, fun hs hz => ?_⟩
  rw [PyData.showable] at hs
  rw [PyData.shown] at hz
  obtain ⟨h1, h2⟩ := PyData.showableKv_split kvs hs
  obtain ⟨b1, m1, k1⟩ := sa h1 fun t ht => let ⟨p, hp, hl⟩ := PyData.shownKv_key_le kvs t ht; Nat.le_trans hl (Nat.le_trans (dictText_mem_le hp) hz)
  obtain ⟨b2, m2, k2⟩ := sb h2 fun t ht => let ⟨p, hp, hl⟩ := PyData.shownKv_val_le kvs t ht; Nat.le_trans hl (Nat.le_trans (dictText_mem_le hp) hz)
  have m := (m1.mono (PyData.depthAll_keys_le kvs)).append (m2.mono (PyData.depthAll_vals_le kvs))
  refine ⟨a :: (b1 ++ b2), ReadAtMost.cons R (by rw [PyData.depth]; omega) m, ?_⟩
  rw [PyData.depth, PyData.shown, PyData.shownKv_eq]
  refine ReprK.dict g c e sys (not_mem_of_deeper R (by rw [PyData.depth]; omega) m) ?_
  exact ReprEntriesK.of_two es.toList _ _ (k1.more_le (fun b hb => List.mem_append_left _ hb) (PyData.depthAll_keys_le kvs)) (k2.more_le (fun b hb => List.mem_append_right _ hb) (PyData.depthAll_vals_le kvs))
theorem Shown.key {P : Program} {w : World} {h : Heap} {k : Key} {v : Value} (q : keyIs k v = true) : Shown P w h v (kD k) := by
  rcases keyIs_shape q with ⟨i, t, rfl, rfl⟩ | ⟨x, t, rfl, rfl⟩
  · refine ⟨⟨_, Reads.int i t⟩, fun hs _ => ⟨[], (fun _ z => nomatch z), ?_⟩⟩
    simp only [kD, PyData.shown]
    exact .of_is (ReprIs.int t (by simpa [kD, PyData.showable] using hs)) _ _ _
  · refine ⟨⟨_, Reads.str x t⟩, fun _ hz => ⟨[], (fun _ z => nomatch z), ?_⟩⟩
    simp only [kD, PyData.shown] at hz ⊢
    exact .of_is (ReprIs.str x t hz) _ _ _
/-- keys and values of a tracked dict -/
theorem shown_pairs {P : Program} {w : World} {h : Heap} : ∀ {kvs : List (Key × V)} {us : List (Key × Value)} {es : List DictEntry} {ds : List (PyData × PyData)},
    KV kvs us → PySem.Pairs (mixKind P w) es us → (∀ (i : Nat) (k : Key) (v : V) (u : Value), kvs[i]? = some (k, v) → RelV v u → ∃ d, ds[i]? = some (kD k, d) ∧ Shown P w h u d) → kvs.length = ds.length →
    ShownAll P w h (es.map (·.key)) (ds.map (·.1)) ∧ ShownAll P w h (es.map (·.val)) (ds.map (·.2))
  | [], _, _, ds, kv, ps, _, hl => by
    cases kv
    cases ps
    cases ds with
    | nil => exact ⟨.nil, .nil⟩
    | cons x r => simp at hl
  | (k, v) :: r, _, _, ds, kv, ps, hv, hl => by
    cases kv with
    | cons h1 h2 =>
      rename_i q us'
      obtain ⟨e1, rv⟩ := h1
      cases ps with
      | cons p1 p2 p3 =>
        obtain ⟨d, ed, sd⟩ := hv 0 k v q.2 rfl rv
        cases ds with
        | nil => simp at hl
        | cons x ds' =>
          simp at ed
          subst ed
          have ih := shown_pairs h2 p3 (ds := ds') (fun i k' v' u' e r' => by
            obtain ⟨d', g1, g2⟩ := hv (i + 1) k' v' u' (by simpa using e) r'
            exact ⟨d', by simpa using g1, g2⟩) (by simpa using hl)
          have e1' : k = q.1 := e1
          rw [List.map_cons, List.map_cons, List.map_cons, List.map_cons]
          refine ⟨.cons (Shown.key (k := k) ?_) ih.1, .cons ?_ ih.2⟩
          · rw [e1']
            exact p1
          · show Shown P w h _ d
            rw [p2]
            exact sd
mutual
theorem Dt.shown (I : Inv X pins σ H s) : ∀ {v : V} {d : PyData}, Dt H v d → ∀ {u : Value}, RelV v u → Shown X.prog X.w s.heap u d
  | _, _, .non, _, r => by
    cases r
    exact ⟨⟨_, Reads.none⟩, fun _ _ => ⟨[], (fun _ z => nomatch z), by rw [PyData.shown]; exact .of_is ReprIs.none _ _ _⟩⟩
  | _, _, .bl b, _, r => by
    cases r
    exact ⟨⟨_, Reads.bool b⟩, fun _ _ => ⟨[], (fun _ z => nomatch z), by rw [PyData.shown]; exact .of_is (ReprIs.bool b) _ _ _⟩⟩
  | _, _, .int i, _, r => Shown.key (k := .inl i) (by obtain ⟨t, rfl⟩ := r; exact keyIs_int i t)
  | _, _, .str x, _, r => Shown.key (k := .inr x) (by obtain ⟨t, rfl⟩ := r; exact keyIs_str x t)
  | _, _, .lst (a := a) (xs := xs) h t, _, r => by
    cases r
    obtain ⟨_, its, n, rv, g⟩ := (show ObjOk X.prog X.w H s.heap a (.lst xs) from I.hok a _ h)
    exact Shown.list g rfl rfl (DtAll.shown I t rv)
  | _, _, .tup (a := a) (xs := xs) h t, _, r => by
    cases r
    obtain ⟨_, its, rv, o, g, c, n, e⟩ := (show ObjOk X.prog X.w H s.heap a (.tup xs) from I.hok a _ h)
    exact Shown.tuple g c e (DtAll.shown I t rv)
  | _, _, .dct (a := a) (kvs := kvs) (es := ds) h t, _, r => by
    cases r
    obtain ⟨_, sys, us, kv, o, es, ep, g, ex, e, _, ps, _⟩ := (show ObjOk X.prog X.w H s.heap a (.dK kvs) from I.hok a _ h)
    obtain ⟨s1, s2⟩ := shown_pairs kv ps (fun i k v u q r => DtKv.shown I t i k v u q r) (DtKv.len t)
    exact Shown.dict g ex.1 e sys s1 s2
theorem DtAll.shown (I : Inv X pins σ H s) : ∀ {vs : List V} {ds : List PyData}, DtAll H vs ds → ∀ {us : List Value}, Vals vs us → ShownAll X.prog X.w s.heap us ds
  | _, _, .nil, _, r => by
    cases r
    exact .nil
  | _, _, .cons h t, _, r => by
    cases r with
    | cons r1 r2 => exact .cons (Dt.shown I h r1) (DtAll.shown I t r2)
theorem DtKv.shown (I : Inv X pins σ H s) : ∀ {kvs : List (Key × V)} {ds : List (PyData × PyData)}, DtKv H kvs ds → ∀ (i : Nat) (k : Key) (v : V) (u : Value), kvs[i]? = some (k, v) → RelV v u → ∃ d, ds[i]? = some (kD k, d) ∧ Shown X.prog X.w s.heap u d
  | _, _, .nil, _, _, _, _, q, _ => by simp at q
  | _, _, .cons h t, 0, k, v, u, q, r => by
    simp at q
    obtain ⟨rfl, rfl⟩ := q
    exact ⟨_, rfl, Dt.shown I h r⟩
  | _, _, .cons h t, i + 1, k, v, u, q, r => by
    obtain ⟨d, g1, g2⟩ := DtKv.shown I t i k v u (by simpa using q) r
    exact ⟨d, by simpa using g1, g2⟩
end
end
end Cr
/-! Cr, part 3: repr as a rule; zip of a text and a tuple. -/
namespace Cr
open PySem PySem.Spec PyProof.Rows L2 Evl
/-- data whose text is short enough -/
structure Fits (d : PyData) : Prop where
  show1 : d.showable = true
  deep : d.depth ≤ 50
  size : d.shown.length ≤ sizeLine
def rRepr : List V → Hp → VK → Prop := fun xs H Q => ∃ v d, xs = [v] ∧ Dt H v d ∧ Fits d ∧ Q (.str d.shown) H
theorem call_reprG {X : Cx} (hq : Quiet X.A) (hu : X.A.units + 64 < cLine) : CallR X (.builtin "repr") rRepr := by
  intro pins s σ H xs us Q I r h
  obtain ⟨v, d, rfl, hd, fit, q⟩ := h
  obtain ⟨u, rfl, ru⟩ := vals1 r
  have fin : ∀ (h' : Heap) (t tk : Nat), (∀ b o, s.heap.get? b = some o → h'.get? b = some o) → EP X pins σ Q (.str d.shown t) { s with heap := h', toks := tk } :=
    fun h' t tk hk => ⟨.str d.shown, H, I.kept hk, ⟨t, rfl⟩, q⟩
  have dp := fit.deep
  have sz := fit.size
  have sw := fit.show1
  cases hd with
  | non =>
    cases ru
    rw [PyData.shown] at q
    exact PySem.P.repr_of_none ⟨.str _, H, I.tok _, ⟨_, rfl⟩, q⟩
  | bl b =>
    cases ru
    rw [PyData.shown] at q
    exact PySem.P.repr_of_bool ⟨.str _, H, I.tok _, ⟨_, by cases b <;> rfl⟩, q⟩
  | int i =>
    obtain ⟨t, rfl⟩ := ru
    rw [PyData.shown] at q
    exact PySem.P.repr_of_int (by simpa [PyData.showable] using sw) ⟨.str _, H, I.tok _, ⟨_, rfl⟩, q⟩
  | str x =>
    obtain ⟨t, rfl⟩ := ru
    rw [PyData.shown] at q sz
    exact PySem.P.repr_of_str ⟨.str _, H, I.tok _, ⟨_, rfl⟩, q⟩ sz
  | @lst a xs ds h t =>
    cases ru
    obtain ⟨_, its, n, rv, g⟩ := (show ObjOk X.prog X.w H s.heap a (.lst xs) from I.hok a _ h)
    have S : ShownAll X.prog X.w s.heap its ds := DtAll.shown I t rv
    obtain ⟨⟨as, ra⟩, sa⟩ := S
    rw [PyData.showable] at sw
    rw [PyData.depth] at dp
    have R : Reads s.heap (.ref a) (.list ds) (a :: as) := .list g rfl rfl (by simpa using ra)
    rw [PyData.shown] at sz
    obtain ⟨bs, m, k⟩ := sa sw fun t ht => Nat.le_trans (listText_mem_le ht) sz
    have no : a ∉ bs := not_mem_of_deeper R (by rw [PyData.depth]; omega) m
    refine call_repr_slot (by omega) ⟨_, g, rfl⟩ F.slot_list_repr.toG ?_
    cases its with
    | nil =>
      cases ra
      refine call_list_repr_empty ⟨_, g, rfl⟩ g rfl ?_
      refine ⟨_, _, rfl, ?_⟩
      have e : (PyData.list []).shown = ("[]" : Str) := by rw [PyData.shown, PyData.shownAll, listText_nil]
      rw [e] at fin
      exact fin s.heap _ _ fun _ _ z => z
    | cons x l =>
      refine call_list_reprK (s := s) g rfl rfl no (by simpa using k.length_eq) (fun i y e => k.item i y (by simpa using e)) hq (fun b _ => Clear.nil b) (show X.A.units + 1 + (PyData.depthAll ds + 1) < cLine by omega) (fun _ _ z => z) (fun h' t tk hk => ?_) sz
      refine ⟨_, _, rfl, ?_⟩
      have z := fin h' t tk hk
      rw [PyData.shown] at z
      exact z
  | @tup a xs ds h t =>
    cases ru
    obtain ⟨_, its, rv, o, g, c, n, e⟩ := (show ObjOk X.prog X.w H s.heap a (.tup xs) from I.hok a _ h)
    have S : ShownAll X.prog X.w s.heap its ds := DtAll.shown I t rv
    obtain ⟨⟨as, ra⟩, sa⟩ := S
    rw [PyData.showable] at sw
    rw [PyData.depth] at dp
    have R : Reads s.heap (.ref a) (.tuple ds) as := .tuple g c e (by simpa using ra)
    rw [PyData.shown] at sz
    obtain ⟨bs, m, k⟩ := sa sw fun t ht => Nat.le_trans (tupleText_mem_le ht) sz
    have no : a ∉ bs := not_mem_of_deeper R (by rw [PyData.depth]; omega) m
    refine call_repr_slot (by omega) ⟨_, g, c⟩ F.slot_tuple_repr ?_
    refine call_tuple_reprK (s := s) g c e no (by simpa using k) hq (fun b _ => Clear.nil b) (show X.A.units + 1 + (PyData.depthAll ds + 1) < cLine by omega) (fun _ _ z => z) (fun h' t tk hk => ?_) sz
    refine ⟨_, _, rfl, ?_⟩
    have z := fin h' t tk hk
    rw [PyData.shown] at z
    exact z
  | @dct a kvs ds h t =>
    cases ru
    obtain ⟨_, sys, us, kv, o, es, ep, g, ex, e, _, ps, _⟩ := (show ObjOk X.prog X.w H s.heap a (.dK kvs) from I.hok a _ h)
    obtain ⟨s1, s2⟩ := shown_pairs kv ps (fun i k v u q r => DtKv.shown I t i k v u q r) (DtKv.len t)
    obtain ⟨⟨as, ra⟩, sa⟩ := s1
    obtain ⟨⟨bs, rb⟩, sb⟩ := s2
    rw [PyData.showable] at sw
    rw [PyData.depth] at dp
    have R : Reads s.heap (.ref a) (.dict ds) (a :: as ++ bs) := .dict g ex.1 e ra rb
    have sz2 := sz
    rw [PyData.shown] at sz
    obtain ⟨w1, w2⟩ := PyData.showableKv_split ds sw
    obtain ⟨b1, m1, k1⟩ := sa w1 fun t ht => let ⟨p, hp, hl⟩ := PyData.shownKv_key_le ds t ht; Nat.le_trans hl (Nat.le_trans (dictText_mem_le hp) sz)
    obtain ⟨b2, m2, k2⟩ := sb w2 fun t ht => let ⟨p, hp, hl⟩ := PyData.shownKv_val_le ds t ht; Nat.le_trans hl (Nat.le_trans (dictText_mem_le hp) sz)
    have m := (m1.mono (PyData.depthAll_keys_le ds)).append (m2.mono (PyData.depthAll_vals_le ds))
    refine call_repr_slot (by omega) ⟨_, g, ex.1⟩ F.slot_dict_repr ?_
    refine call_dict_reprK (s := s) g ex.1 e sys (not_mem_of_deeper R (by rw [PyData.depth]; omega) m) (ReprEntriesK.of_two es.toList _ _ (k1.more_le (fun b hb => List.mem_append_left _ hb) (PyData.depthAll_keys_le ds)) (k2.more_le (fun b hb => List.mem_append_right _ hb) (PyData.depthAll_vals_le ds)))
      hq (fun b _ => Clear.nil b) (show X.A.units + 1 + (PyData.depthKv ds + 1) < cLine by omega) (fun _ _ z => z) (fun h' t tk hk => ?_) (by rw [← PyData.shownKv_eq]; exact sz)
    refine ⟨_, _, rfl, ?_⟩
    have z := fin h' t tk hk
    rw [PyData.shown, PyData.shownKv_eq] at z
    exact z
end Cr
/-! Cr, part 4: zip of a text and a tuple; comprehensions over any walk. -/
namespace Cr
open PySem PySem.Spec PyProof.Rows L2 Evl
/-- a comprehension over any walk, which may be one of new things -/
theorem el_lcW {wi : TI} {g : TG} {tt : TT} {te : TE} {vs : List Nat} {σ : L2.St} {H : Hp} {n : Nat} {Y : Nat → Hp → V → Hp → Prop}
    (f : Nat → Bool) (v : Nat → V) (hn : n ≤ 40000)
    (hi : ∀ H1, Ex H H1 → ∀ R : It → Hp → Prop, (∀ H2 (J : It) (G : Hp → Prop), Walk J n G Y → (∀ H3 H4, Ex H3 H4 → G H3 → G H4) → Ex H1 H2 → G H2 → R J H2) → wi σ H1 R)
    (hs : ∀ i x H1 H2, Ex H H1 → i < n → Y i H1 x H2 → Ex H1 H2 ∧ ∃ σ2, wipe σ2 vs = wipe σ vs ∧ (∀ R : L2.St → Hp → Prop, R σ2 H2 → g x (wipe σ vs) H2 R) ∧ EvT tt σ2 H2 (f i) ∧ (f i = true → Ev te σ2 H2 (v i))) :
    EvL (tLc wi g tt te vs) σ H (given n f v) := by
  intro H0 e Q q
  refine hi H0 e _ fun H1 J G w hG e1 g1 D hD => ?_
  refine lc_it w (Cw H1 f v D) ⟨hD, Ex.new hD, upd_same⟩ (fun i H2 _ p => hG H1 H2 p.2.1 g1) (fun i x H2 H3 hlt p y => ?_) (fun H2 p => q D H2 (fresh_back e1 p.1) (e1.trans p.2.1) p.2.2)
  obtain ⟨p1, p2, p3⟩ := p
  obtain ⟨e2, σ2, hw, hgo, ht, he⟩ := hs i x H2 H3 ((e.trans e1).trans p2) hlt y
  refine hgo _ ⟨hw, ht H3 (Ex.refl H3) _ fun H4 e4 => ?_⟩
  cases hf : f i with
  | true =>
    rw [if_pos rfl]
    refine he hf H4 e4 _ fun H5 e5 => ⟨given i f v, e5 D _ (e4 D _ (e2 D _ p3)), sz_lt (by have := given_len i f v; omega), p1, Ex.mut (((p2.trans e2).trans e4).trans e5) p1, ?_⟩
    rw [given_yes hf]
    exact upd_same
  | false =>
    rw [if_neg Bool.false_ne_true]
    refine ⟨p1, (p2.trans e2).trans e4, ?_⟩
    rw [given_no hf]
    exact e4 D _ (e2 D _ p3)
end Cr
/-! Cr, part 5: small data, promises of one datum, evaluations that serve many defs. -/
namespace Cr
open PySem PySem.Spec PyProof.Rows L2 Evl
mutual
/-- texts and sequences of moderate size -/
def sm : PyData → Bool
  | .none | .bool _ | .int _ => true
  | .str x => decide (x.length ≤ 1000)
  | .list xs | .tuple xs => decide (xs.length ≤ 1000) && smAll xs
  | .dict _ => true
def smAll : List PyData → Bool
  | [] => true
  | x :: xs => sm x && smAll xs
end
/-- a def that answers a datum with a bool -/
def spD (f : PyData → Bool) : Sp := fun vs H Q _ => ∃ v d, vs = [v] ∧ Dt H v d ∧ sm d = true ∧ ∀ H', Ex H H' → Q (.bl (f d)) H'
theorem spD_len {f : PyData → Bool} : ∀ vs H Q E, spD f vs H Q E → vs.length = 1 := fun vs H Q E h => by
  obtain ⟨v, d, rfl, _⟩ := h
  rfl
theorem spv_D {f : PyData → Bool} {H : Hp} {v : V} {d : PyData} (h : Dt H v d) (s : sm d = true) : SpV (spD f) [v] H (.bl (f d)) := fun H1 e Q q E =>
  ⟨v, d, rfl, Dt.ex e h, s, q⟩
section
variable {K : PySem.W.Frag} {σ : L2.St} {H : Hp} {ta tb tc te : TE} {x y z w v : V} {r r' : R2}
theorem ev_chain {k k' : Bool} (ha : Ev ta σ H x) (hb : Ev tb σ H y) (hr : RV r x y H (.bl k)) (hc : k = true → Ev tc σ H w) (hr' : k = true → RV r' y w H (.bl k')) : Ev (tChain r r' ta tb tc) σ H (.bl (k && k')) := fun H1 e Q q =>
  ha H1 e _ fun H2 e2 => hb H2 (e.trans e2) _ fun H3 e3 => hr H3 ((e.trans e2).trans e3) _ fun H4 e4 => ⟨k, rfl, by
    have e14 := (e2.trans e3).trans e4
    cases k with
    | true =>
      rw [if_pos rfl]
      exact hc rfl H4 (e.trans e14) _ fun H5 e5 => hr' rfl H5 ((e.trans e14).trans e5) Q fun H6 e6 => q H6 ((e14.trans e5).trans e6)
    | false =>
      rw [if_neg Bool.false_ne_true]
      exact q H4 e14⟩
theorem ev_all {bs : List Bool} (h : EvL te σ H (bs.map V.bl)) : Ev (tCB (rAll K) (tCons te tNil)) σ H (.bl (bs.all id)) := fun H1 e Q q =>
  h H1 e _ fun p H2 _ e2 hp => ⟨p, bs, rfl, sq_of hp, q H2 e2⟩
/-- len of a text, of a tracked tuple -/
theorem rc_lenS {s : Str} (h : s.length ≤ 1000) : RC (fun xs H Q => ∃ z, xs = [V.str z] ∧ z.length ≤ sizeLine ∧ Q (.int z.length) H) [.str s] H (.int (s.length : Int)) := fun H1 _ Q q =>
  ⟨s, rfl, sz_of (by omega), q H1 (Ex.refl H1)⟩
theorem rc_lenL {a : Addr} {xs : List V} (h : SqL K H a xs) : RC (fun vs H Q => ∃ p ys, vs = [V.ref p] ∧ (SqL K H p ys ∨ SqT K H p ys) ∧ Q (.int ys.length) H) [.ref a] H (.int (xs.length : Int)) := fun H1 e Q q =>
  ⟨a, xs, rfl, .inl (ex_l e h), q H1 (Ex.refl H1)⟩
end
/-! ### texts -/
def rLeS : R2 := fun x y H Q => ∃ i j, x = .str i ∧ y = .str j ∧ Q (.bl (!decide (j.cps.toList < i.cps.toList))) H
theorem op_leS {X : Cx} : OpR X (compareOp .LtE) rLeS := op_le_str
theorem rv_leS {i j : Str} {H : Hp} : RV rLeS (.str i) (.str j) H (.bl (!decide (j.cps.toList < i.cps.toList))) := fun H1 _ Q q => ⟨i, j, rfl, rfl, q H1 (Ex.refl H1)⟩
theorem one_lt (a b : Nat) : decide ([a] < [b]) = decide (a < b) := by
  by_cases h : a < b
  · rw [decide_eq_true h, decide_eq_true (List.cons_lt_cons_iff.mpr (.inl h))]
  · rw [decide_eq_false h, decide_eq_false]
    intro z
    rcases List.cons_lt_cons_iff.mp z with q | ⟨_, q⟩
    · exact h q
    · exact absurd q (by simp)
def isLow (c : Nat) : Bool := decide (97 ≤ c) && decide (c ≤ 122)
theorem given_all (n : Nat) (v : Nat → V) : given n (fun _ => true) v = (List.range n).map v := by
  unfold given
  rw [List.filter_eq_self.mpr (fun _ _ => rfl)]
theorem all_range {α : Type} (l : List α) (d : α) (p : α → Bool) : ((List.range l.length).map fun i => p (l.getD i d)).all id = l.all p := by
  rw [List.all_map]
  have e : ∀ n, n ≤ l.length → ((List.range n).all fun i => p (l.getD i d)) = (l.take n).all p := by
    intro n
    induction n with
    | zero => intro _; simp
    | succ n ih =>
      intro h
      rw [List.range_succ, List.all_append, ih (by omega), List.take_add_one, List.all_append]
      congr 1
      rw [List.getElem?_eq_getElem (by omega)]
      simp [List.getD, List.getElem?_eq_getElem (show n < l.length by omega)]
  have h := e l.length (Nat.le_refl _)
  rw [List.take_length] at h
  exact h
end Cr
/-! own errors whose making says super().__init__(..) first, over ValueError through classes between -/
namespace Cr
open PySem PySem.Spec PyProof.Rows L2
/-- the names of such a def -/
structure SupScope (N ps : List Str) (sc : Scope) : Prop where
  kind : sc.kind = .function
  co : sc.isCoroutine = false
  gen : sc.isGenerator = false
  nd : N.Nodup
  pre : N.take ps.length = ps
  par : ∀ x ∈ ps, sc.names.lookup x = some .local
  nocell : ∀ y ∈ sc.names, y.2 ≠ .cell
  free : ∀ y ∈ sc.names, y.2 = .free → y.1 = "__class__"
  cls : sc.names.lookup ("__class__" : Str) = some .free
  sup : sc.names.lookup ("super" : Str) = some .globalImplicit
/-- its body's context: no error leaves it -/
def cxSup (P : Program) (w : World) (K : PySem.W.Frag) (mg : Str → Option Value) (base : Heap) (N : List Str) (qual : Str) (scope : Scope) (f cda cc : Addr) (A : Around) (outer : List Env) (s : Shared) (H : Hp) : Cx where
  prog := P
  w := w
  K := K
  mg := mg
  base := base
  A := A.deeper (PySem.W.ksEnv qual scope s.heap.objs.size f (.ref cda) cc)
  N := N
  s_0 := s
  H_0 := H
  env := PySem.W.ksEnv qual scope s.heap.objs.size f (.ref cda) cc
  outer := outer
  stack := PySem.W.ksEnv qual scope s.heap.objs.size f (.ref cda) cc :: outer
  ex := []
  calm := true
  fn := fun _ => false
  pn := []
  xe := fun _ _ => False
theorem look_mem {α : Type} {x : Str} {v : α} : ∀ {l : List (Str × α)}, (l.map (·.1)).Nodup → (x, v) ∈ l → l.lookup x = some v
  | [], _, h => nomatch h
  | (y, u) :: l, nd, h => by
    rcases List.mem_cons.mp h with e | h2
    · cases e; simp [List.lookup]
    · have nd' := List.nodup_cons.mp nd
      have ne : (x == y) = false := by
        refine beq_eq_false_iff_ne.mpr fun z => nd'.1 ?_
        rw [← z]
        exact List.mem_map.mpr ⟨_, h2, rfl⟩
      simp only [List.lookup, ne]
      exact look_mem nd'.2 h2
theorem zip_rev {ps : List Str} {us : List Value} {i : Nat} {x : Str} {u : Value} (nd : ps.Nodup) (h1 : ps[i]? = some x) (h2 : us[i]? = some u) (hl : us.length = ps.length) : (ps.zip us).reverse.lookup x = some u := by
  refine look_mem ?_ ?_
  · rw [List.map_reverse]
    have e : (ps.zip us).map (·.1) = ps := List.map_fst_zip (by omega)
    rw [e]
    exact List.pairwise_reverse.mpr (List.Pairwise.imp (fun h => Ne.symm h) nd)
  · refine List.mem_reverse.mpr ?_
    refine List.mem_of_getElem? (i := i) ?_
    rw [List.getElem?_zip_eq_some]
    exact ⟨h1, h2⟩
section
variable {P : Program} {w : World} {K : PySem.W.Frag} {mg : Str → Option Value} {base : Heap}
theorem inv_sup {N ps : List Str} {qual : Str} {scope : Scope} {f cda cc : Addr} {cl : Value} {cld : Option Addr} {cv : Option Value} {csl : Array (Option Value)} {A : Around} {outer : List Env} {s : Shared} {h₁ : Heap} {tk : Nat} {H : Hp} {us : List Value} {vs : List V}
    (S : SupScope N ps scope) (hd : A.handled = none) (e0 : Env0 P w K mg base A outer s H) (hl : vs.length = ps.length) (r : Vals vs us) (hcell : K.lookup cc = some ⟨cl, cld, .cell cv, csl⟩)
    (hns : h₁.Ns s.heap.objs.size (fun x => (ps.zip us).reverse.lookup x)) (hk : ∀ b o, s.heap.get? b = some o → h₁.get? b = some o) :
    Inv (cxSup P w K mg base N qual scope f cda cc A outer s H) [] (L2.start N vs) H { s with heap := h₁, toks := tk } := by
  have hpl : ps.length ≤ N.length := by have := congrArg List.length S.pre; rw [List.length_take] at this; omega
  have noA : ∀ b : Addr, b ∉ (cxSup P w K mg base N qual scope f cda cc A outer s H).ex := fun b z => absurd (show b ∈ ([] : List Addr) from z) (by simp)
  have one : ∀ {y : Str} {c : Addr}, ([("__class__", cc)] : List (Str × Addr)).lookup y = some c → y = "__class__" ∧ c = cc := fun {y c} h => by
    by_cases z : y = "__class__"
    · subst z
      simp [List.lookup] at h
      exact ⟨rfl, h.symm⟩
    · have e : (y == ("__class__" : Str)) = false := beq_eq_false_iff_ne.mpr z
      simp [List.lookup, e] at h
  have hb := e0.mod.kin _ _ hcell
  have hc1 := e0.bs _ _ hb
  refine ⟨⟨e0.mod, S.kind, rfl, rfl, Nat.le_refl _, fun y z c h1 h2 => (one h1).1.trans (one h2).1.symm, fun y hy => ?_, fun y c z _ => absurd (show false = true from z) (by decide), fun _ => hd, Around.frames_deeper e0.frames, .inr ⟨rfl, rfl⟩, fun b z => absurd z (noA b), e0.bs, e0.bsz, fun b _ _ => noA b, fun b z => absurd z (noA b), e0.funs, e0.frf⟩,
    rfl, e0.bare, Un.kept hk, ⟨_, hns, fun i y v h1 h2 h3 => ?_⟩, fun y c h => ?_, e0.hok.fresh (Nat.le_refl _), fun y c h => ?_, fun p hp => absurd (show p ∈ ([] : List (Addr × Obj)) from hp) (by simp), e0.hok.kept hk, ?_⟩
  · have hy : scope.names.lookup y = some .cell ∨ scope.names.lookup y = some .free := hy
    rcases hy with hy | hy
    · exact absurd rfl (S.nocell _ (PySem.mem_of_lookup hy))
    · have e := S.free _ (PySem.mem_of_lookup hy) rfl
      have e : y = "__class__" := e
      subst e
      exact ⟨cc, by show ([(("__class__" : Str), cc)] : List (Str × Addr)).lookup ("__class__" : Str) = _; simp [List.lookup]⟩
  · have hi : i < vs.length := by
      unfold L2.start at h2
      by_cases hi : i < vs.length
      · exact hi
      · rw [List.getElem?_append_right (by simpa using hi)] at h2
        rw [List.getElem?_replicate] at h2
        split at h2 <;> cases h2
    have ha : vs[i]? = some v := by
      unfold L2.start at h2
      rw [List.getElem?_append_left (by simpa using hi), List.getElem?_map] at h2
      cases e : vs[i]? with
      | none => rw [e] at h2; cases h2
      | some a => rw [e] at h2; cases h2; rfl
    obtain ⟨u, hu, rv⟩ := r.get ha
    have hp : ps[i]? = some y := by
      rw [← S.pre, List.getElem?_take_of_lt (by omega)]; exact h1
    have ndP : ps.Nodup := by rw [← S.pre]; exact S.nd.sublist (List.take_sublist _ _)
    exact ⟨u, rv, .inl ⟨S.par y (List.mem_of_getElem? hp), zip_rev ndP hp hu (r.length.symm.trans hl)⟩⟩
  · obtain ⟨_, rfl⟩ := one h
    exact ⟨cv, _, hk _ _ hc1.1, rfl⟩
  · obtain ⟨_, rfl⟩ := one h
    exact hc1.2
  · unfold L2.start
    show _ = N.length
    rw [List.length_append, List.length_map, List.length_replicate]
    omega
end
end Cr
/-! own errors over a built-in error that has no __new__ of its own (KeyError: the one of LookupError) -/
namespace Cr
open PySem PySem.Sem
/-- what the tail of the chain must have -/
structure TailOk (B : String) (l : List Value) : Prop where
  has : l.contains (.type B) = true
  noA : l.contains (.type "AttributeError") = false
  noN : l.contains (.type "NameError") = false
section
variable {prog : Program} {w : World} {A : Around} {E : Value → Shared → Prop} {R : Result → Shared → Prop} {h : Heap} {g : Array GenState} {d : Drawn} {t : Nat} {os : OsState}
variable {nm q : Str} {C N : Addr} {bs bm tl : List Value} {hdct : Bool} {sn : List Str} {sub : List Value} {ab : Bool} {col : Option Bool} {dd : Option Addr} {k0 k1 k2 k3 k5 : Option Value} {B nw ini : String}
theorem TailOk.up {l : List Value} {c : Addr} {B : String} (T : TailOk B l) : TailOk B (.ref c :: l) :=
  ⟨by rw [List.contains_cons, T.has, Bool.or_true], by rw [List.contains_cons, T.noA]; rfl, by rw [List.contains_cons, T.noN]; rfl⟩
/-- the look ahead of __new__ -/
theorem chkNew (F : ExcBaseFacts B nw ini tl) (T : TailOk B (.ref C :: bm)) {M : Model} {us : List Value} {Q : Unit → Shared → Prop}
    (at_ : h.get? C = some (excClassObj nm q C N bs bm hdct sn sub ab col dd k0 k1 k2 k3 k5 nw)) (z : Q () ⟨h, g, d, t, os⟩) : wpAny M A (checkBuiltinCall nw ⟨.ref C :: us, []⟩) Q E ⟨h, g, d, t, os⟩ := by
  have e1 := T.has
  have e2 := F.noStar
  simp only [checkBuiltinCall, F.newKind, F.newSplit, F.newRow]
  repeat (first | refine wpAny_loadPart_at at_ ?_ | (refine wpAny_isSubtype_exc at_ ?_; rw [e1]) | refine wpAny_staticBase_exc at_ ?_ | refine wpAny_madeBy_exc at_ ?_ | simp only [bne_self_eq_false, Bool.false_eq_true, if_false] | wp_step)
  exact z
/-- __new__ itself -/
theorem runNew (F : ExcBaseFacts B nw ini tl) (T : TailOk B (.ref C :: bm)) {us : List Value} (at_ : h.get? C = some (excClassObj nm q C N bs bm hdct sn sub ab col dd k0 k1 k2 k3 k5 nw))
    (z : R (.ok (.ret (.ref (h.objs.size + 1)))) ⟨(h.push (PySem.W.kdv_tup us)).push (PySem.HandSPX.excO C h.objs.size), g, d, t, os⟩) (few : us.length ≤ sizeLine) :
    codeAny (model prog w) A (.builtin nw ⟨.ref C :: us, []⟩) R ⟨h, g, d, t, os⟩ := by
  have e0 := F.ends
  have e1 := T.has
  have e2 := T.noA
  have e3 := T.noN
  refine codeAny_builtinAt F.entry ?_
  unfold Builtin.«BaseException.__new__»
  refine wpAt_bind ?_
  show wpAt _ _ _ (stack >>= _) _ _ _
  refine wpAt_bind (wpAt_stack fun _ _ => wpAt_of_wpAny ?_)
  wp_walk
  refine wpAt_of_wpAny ?_
  rw [F.owner]
  repeat (first | with_reducible refine wpAny_madeHere_exc F.canon at_ ?_ | with_reducible refine wpAny_loadPart_at at_ ?_ | (with_reducible refine wpAny_isSubtype_exc at_ ?_; first | rw [e1] | rw [e2] | rw [e3]) | wp_step)
  show R _ _
  rw [Heap.size_push]
  exact z
/-- type.__call__: __new__, then the own __init__ -/
theorem typeCall2 (F : ExcBaseFacts B nw ini tl) (T : TailOk B (.ref C :: bm)) {us : List Value} {fI : Addr} {Q : Fin → Shared → Prop} (at_ : h.get? C = some (excClassObj nm q C N bs bm hdct sn sub ab col dd k0 k1 k2 k3 k5 nw))
    (hi : PySem.W.Looks (model prog w) h (typeLookup (.ref C) "__init__") (some (.ref fI))) (hb : ∀ self, PySem.W.Looks (model prog w) h (bindSpecial (.ref fI) self) (.ref fI, [self])) (few : us.length ≤ sizeLine)
    (z : codeAny (model prog w) A (.call (.ref fI) ⟨.ref (h.objs.size + 1) :: us, []⟩) (fun r s' => match r with | .ok (.ret v) => v = .none ∧ Q (.done (.ret (.ref (h.objs.size + 1)))) s' | .ok _ => False | .error e => E e s')
      ⟨(h.push (PySem.W.kdv_tup us)).push (PySem.HandSPX.excO C h.objs.size), g, d, t, os⟩) :
    wpAny (model prog w) A (Builtin.«type.__call__» ⟨.ref C :: us, []⟩) Q E ⟨h, g, d, t, os⟩ := by
  repeat (first | with_reducible refine wpAny_loadPart_at at_ ?_ | with_reducible refine wpAny_madeBy_exc at_ ?_ | wp_step)
  refine codeAny_call_builtin_code (Code.quiet_builtin _ F.quiet) (chkNew F T at_ (runNew F T at_ ?_ few))
  show wpAny _ _ _ _ _ _
  have kp : ∀ b o, h.get? b = some o → ((h.push (PySem.W.kdv_tup us)).push (PySem.HandSPX.excO C h.objs.size)).get? b = some o := fun b o e => Heap.get?_push_of_some _ (Heap.get?_push_of_some _ e)
  have at1 := kp _ _ at_
  have here : ((h.push (PySem.W.kdv_tup us)).push (PySem.HandSPX.excO C h.objs.size)).get? (h.objs.size + 1) = some (PySem.HandSPX.excO C h.objs.size) := by heap_get
  have own : (Value.ref C :: bm).contains (.ref C) = true := by simp
  have i1 := hi.keeps kp
  have b1 := (hb (.ref (h.objs.size + 1))).keeps kp
  unfold isInstance
  repeat (first | with_reducible refine wpAny_loadPart_at here ?_ | (with_reducible refine wpAny_isSubtype_exc at1 ?_; rw [own]) | wp_step)
  show wpAny _ _ (typeLookup (.ref C) _) _ _ _
  refine i1.at (wpAny_holding (wpAny_bind (b1.at ?_)))
  refine wpAny_bind (wpAny_call (codeAny_mono z fun r s' y => ?_))
  rcases r with e | (v | _ | _ | _) <;> first | exact y | exact y.elim | skip
  obtain ⟨rfl, y⟩ := y
  first
    | exact wpAny_pure (wpAny_pure y)
    | (wp_walk; exact y)
/-- the class is called -/
theorem call2 (F : ExcBaseFacts B nw ini tl) (T : TailOk B (.ref C :: bm)) {us : List Value} {fI : Addr} (at_ : h.get? C = some (excClassObj nm q C N bs bm hdct sn sub ab col dd k0 k1 k2 k3 k5 nw))
    (hi : PySem.W.Looks (model prog w) h (typeLookup (.ref C) "__init__") (some (.ref fI))) (hb : ∀ self, PySem.W.Looks (model prog w) h (bindSpecial (.ref fI) self) (.ref fI, [self])) (few : us.length ≤ sizeLine)
    (z : codeAny (model prog w) (A.under (.builtin "type.__call__" ⟨.ref C :: us, []⟩)) (.call (.ref fI) ⟨.ref (h.objs.size + 1) :: us, []⟩) (PySem.W.InitBack (h.objs.size + 1) R) ⟨(h.push (PySem.W.kdv_tup us)).push (PySem.HandSPX.excO C h.objs.size), g, d, t, os⟩) :
    codeAny (model prog w) A (.call (.ref C) ⟨us, []⟩) R ⟨h, g, d, t, os⟩ := by
  have f1 := tc_lookup
  have f2 := tc_bind (.ref C)
  have ty : (⟨h, g, d, t, os⟩ : Shared).TypeIs (.ref C) "type" := ⟨_, at_, rfl⟩
  refine codeAny_of_tree ?_
  show wpAny _ _ (callAny (.ref C) _) _ _ _
  repeat (any_goals (first | assumption | with_reducible refine wpAny_loadPart_at at_ ?_ | wp_step))
  refine ⟨rfl, ?_⟩
  refine codeAny_call_builtin_at (Code.quiet_builtin _ (by decide +kernel)) entry_typeCall (wpAny_check_type_call_sub at_ (typeCall2 F T at_ hi hb few ?_))
  refine codeAny_mono z fun r s' y => ?_
  rcases r with e | (v | _ | _ | _) <;> exact y
end
/-- what is asked of the __init__ of a built-in error -/
structure IniF (B ini : String) : Prop where
  plain : plainId ini = true
  entry : entryFor table ini = some Builtin.«BaseException.__init__»
  kind : builtinKind ini = some .slot
  row : Manifest.signature? ini = some ⟨.positional, "*", B, .self, [⟨"args", .varPos, false⟩]⟩
  star : (B != "*") = true
theorem iniOf {B nw ini : String} (F : ExcCallFacts B nw ini) : IniF B ini := ⟨F.init.plain, F.initEntry, F.initKind, F.initRow, F.noStar⟩
section
variable {M : Model} {A : Around} {E : Value → Shared → Prop} {h : Heap} {g : Array GenState} {d : Drawn} {t : Nat} {os : OsState}
/-- the look ahead of a bound __init__ -/
theorem chkIni {B ini nw : String} (F : IniF B ini) {nm q : Str} {C N e : Addr} {oe : Obj} {bs bm : List Value} {hdct : Bool} {sn : List Str} {sub : List Value} {ab : Bool} {col : Option Bool} {dd : Option Addr} {k0 k1 k2 k3 k5 : Option Value} {us : List Value} {Q : Unit → Shared → Prop}
    (at_ : h.get? C = some (excClassObj nm q C N bs bm hdct sn sub ab col dd k0 k1 k2 k3 k5 nw)) (he : h.get? e = some oe) (hcls : oe.cls = .ref C) (z : Q () ⟨h, g, d, t, os⟩) : wpAny M A (checkBoundCall ini ⟨.ref e :: us, []⟩) Q E ⟨h, g, d, t, os⟩ := by
  have st := F.star
  simp only [checkBoundCall, F.kind, F.row]
  repeat (first | (with_reducible refine wpAny_loadPart_at he ?_; rw [hcls]) | with_reducible refine wpAny_loadPart_at at_ ?_ | wp_step)
  refine wpAny_onRaise ?_
  rw [show ∀ (a b : String) (n : Nat), Bind.check ⟨.positional, "*", B, .self, [⟨"args", .varPos, false⟩]⟩ a b n (List.map (fun x => x.fst) ({ pos := Value.ref e :: us } : Args).kw) = pure () from fun a b n => check_star_args _ _ _ _ _ _]
  exact wpAny_pure z
end
end Cr
/-! own errors over any built-in error: fields stored, the making, super().__init__(..) -/
namespace Cr
open PySem PySem.Spec PyProof.Rows L2
open Builtin Builtin.ObjectAttr
/-- a built-in error: its name, its __new__ and __init__, its chain -/
structure XB where
  B : String
  nw : String
  ini : String
  tl : List Value
structure XB.Ok (b : XB) : Prop where
  made : ∃ Bn inN tlN, ExcBaseFacts Bn b.nw inN tlN ∧ TailOk Bn b.tl
  inif : IniF b.B b.ini
  sup : PySem.W.KxsFacts b.B b.ini
  free : ∀ self : Value, refuseLoop self "__setattr__" b.tl = pure ()
  obj : b.tl.contains (.type "object") = true
abbrev xbV : XB := ⟨"ValueError", "ValueError.__new__", "ValueError.__init__", [.type "ValueError", .type "Exception", .type "BaseException", .type "object"]⟩
abbrev xbL : XB := ⟨"LookupError", "LookupError.__new__", "LookupError.__init__", [.type "LookupError", .type "Exception", .type "BaseException", .type "object"]⟩
theorem ok_xb {b : XB} (F : ExcBaseFacts b.B b.nw b.ini b.tl) (s : PySem.W.KxsFacts b.B b.ini) (f : ∀ self : Value, refuseLoop self "__setattr__" b.tl = pure ()) (o : b.tl.contains (.type "object") = true) : b.Ok :=
  ⟨⟨_, _, _, F, F.hasB, F.noAttr, F.noName⟩, iniOf F.toExcCallFacts, s, f, o⟩
theorem xbV_ok : xbV.Ok := ok_xb F.excBase_ValueError PySem.W.kxs_ValueError F.store_ValueError.passes (by decide +kernel)
theorem xbL_ok : xbL.Ok := ok_xb F.excBase_LookupError PySem.W.kxs_LookupError F.store_LookupError.passes (by decide +kernel)
/-- own classes, then the chain -/
def downTo (tl : List Value) : List Value → Bool
  | .ref _ :: r => downTo tl r
  | l => l == tl
theorem down_or {tl l : List Value} (h : downTo tl l = true) : (∃ c r, l = .ref c :: r ∧ downTo tl r = true) ∨ l = tl := by
  unfold downTo at h
  split at h
  · exact .inl ⟨_, _, rfl, h⟩
  · exact .inr (beq_iff_eq.mp h)
theorem down_free {tl : List Value} (self : Value) (ht : refuseLoop self "__setattr__" tl = pure ()) : ∀ l : List Value, downTo tl l = true → refuseLoop self "__setattr__" l = pure ()
  | [], h => by
    rcases down_or h with ⟨_, _, z, _⟩ | rfl
    · cases z
    · exact ht
  | v :: r, h => by
    rcases down_or h with ⟨c, r', z, k⟩ | z
    · cases z
      rw [refuseLoop_ref]
      exact down_free self ht r k
    · rw [z]
      exact ht
theorem down_has {tl : List Value} (Y : String) : ∀ l : List Value, downTo tl l = true → l.contains (.type Y) = tl.contains (.type Y)
  | [], h => by
    rcases down_or h with ⟨_, _, z, _⟩ | rfl
    · cases z
    · rfl
  | v :: r, h => by
    rcases down_or h with ⟨c, r', z, k⟩ | z
    · cases z
      rw [List.contains_cons, down_has Y r k]
      rfl
    · rw [z]
theorem XB.Ok.tail {b : XB} (h : b.Ok) {C : Addr} {bm : List Value} (d : downTo b.tl bm = true) : ∃ Bn inN tlN, ExcBaseFacts Bn b.nw inN tlN ∧ TailOk Bn (.ref C :: bm) := by
  obtain ⟨Bn, inN, tlN, F, T⟩ := h.made
  refine ⟨Bn, inN, tlN, F, TailOk.up ⟨?_, ?_, ?_⟩⟩
  · rw [down_has _ _ d]; exact T.has
  · rw [down_has _ _ d]; exact T.noA
  · rw [down_has _ _ d]; exact T.noN
/-- what the written part says of an own error's class -/
structure OexG (K : PySem.W.Frag) (C : Addr) (b : XB) : Prop where
  ok : b.Ok
  cls : ∃ nm q N bs bm sn sub ab col dd k0 k1 k2 k3 k5, K.lookup C = some (excClassObj nm q C N bs bm true sn sub ab col dd k0 k1 k2 k3 k5 b.nw) ∧ downTo b.tl bm = true
  sa : PySem.W.findIn K (.ref C) "__setattr__" = some (some (.builtin "object.__setattr__"))
  exC : PySem.W.subIn K (.ref C) (.type "BaseException") = some true
  tyC : PySem.W.typeIn K (.ref C) = some (.type "type")
  kC : PySem.W.keepIn K (.ref C) = true
section
variable {prog : Program} {w : World} {A : Around} {R : Result → Shared → Prop} {hp : Heap} {g : Array GenState} {d : Drawn} {t : Nat} {os : OsState}
/-- the way of object.__setattr__ up to the own dict -/
theorem osaG {K : PySem.W.Frag} {name : Str} {tk : Tok} {v : Value} {x C : Addr} {ox : Obj} {od : Option Obj} {cd : ClassData} {b : XB} (hb : b.Ok) (X : K.In hp) (I : PySem.W.InstAt hp x ox C od) (hcd : PySem.W.clsIn K C = some cd) (hm : downTo b.tl cd.mro = true) (ha : PySem.W.findIn K (.ref C) name = some none)
    (go : ∀ Q : Fin → Shared → Prop, (∀ s', R (.ok (.ret .none)) s' → Q (.done (.ret .none)) s') → wpAny (model prog w) A.in1 (storeInOwnDict (.ref x) (.ref C) (.str name tk) name v false) Q (fun e s' => R (.error e) s') ⟨hp, g, d, t, os⟩) :
    codeAny (model prog w) A (.call (.builtin "object.__setattr__") ⟨[.ref x, .str name tk, v], []⟩) R ⟨hp, g, d, t, os⟩ := by
  have SF := F.store_object
  have has : cd.mro.contains (.type "object") = true := (down_has "object" _ hm).trans hb.obj
  have full : cd.mro.isEmpty = false := by
    cases e : cd.mro with
    | nil => rw [e] at has; exact absurd has (by decide)
    | cons _ _ => rfl
  have isO : PySem.W.Looks (model prog w) hp (isInstance (.ref x) (.type "object")) true := I.type.andThen (PySem.W.looks_mroIn X (by unfold PySem.W.mroIn; rw [hcd, Option.bind_some, if_neg (by rw [full]; decide), has]))
  refine codeAny_call_builtin SF.slot.plain SF.entry (@PySem.W.check_slot (model prog w) _ _ ⟨hp, g, d, t, os⟩ "object.__setattr__" "object" "__setattr__" (.ref x) [.str name tk, v] [] _ SF.kind SF.split isO (SF.args (.ref x) (.str name tk) v) ?_)
  have line : PySem.W.Looks (model prog w) hp (mroOf (.ref C)) cd.mro := (PySem.W.looks_clsIn X hcd).andThen .now
  have none_ : PySem.W.Looks (model prog w) hp (storeTaker? none) none := .now
  rw [PySem.W.osa_eq, refuse_eq]
  refine wpAny_bind (wpAny_bind (I.type.at (wpAny_bind (line.at ?_))))
  rw [down_free _ (hb.free _) _ hm]
  refine wpAny_pure (wpAny_bind (I.type.at (wpAny_bind ((PySem.W.looks_findIn X ha).at (wpAny_bind (none_.at ?_))))))
  exact go _ fun s' h => h
end
end Cr
namespace Cr
open PySem PySem.Spec PyProof.Rows L2
open Builtin Builtin.ObjectAttr
section
variable {prog : Program} {w : World} {A : Around} {R : Result → Shared → Prop} {hp : Heap} {g : Array GenState} {d : Drawn} {t : Nat} {os : OsState}
/-- the first field: the dict is made -/
theorem osaG_new {K : PySem.W.Frag} {name : Str} {tk : Tok} {v : Value} {x C : Addr} {fv : Array Value} {cd : ClassData} {b : XB} (hb : b.Ok) (X : K.In hp) (hx : hp.get? x = some { cls := .ref C, data := .fields fv }) (hcd : PySem.W.clsIn K C = some cd) (hm : downTo b.tl cd.mro = true) (hh : cd.hasDict = true)
    (ha : PySem.W.findIn K (.ref C) name = some none)
    (hq : ∀ h' tk' dx, (∀ c o, c ≠ x → hp.get? c = some o → h'.get? c = some o) → hp.objs.size ≤ dx → dx ≠ x → h'.get? x = some { cls := .ref C, dict := some dx, data := .fields fv } →
      h'.Ns1 dx (fun y => if y = name then some v else none) → R (.ok (.ret .none)) ⟨h', g, d, tk', os⟩) :
    codeAny (model prog w) A (.call (.builtin "object.__setattr__") ⟨[.ref x, .str name tk, v], []⟩) R ⟨hp, g, d, t, os⟩ := by
  refine osaG hb X (ox := { cls := .ref C, data := .fields fv }) (od := none) ⟨hx, rfl, rfl, trivial⟩ hcd hm ha fun Q hQ => ?_
  have far : x ≠ hp.objs.size := Nat.ne_of_lt (Heap.lt_size hx)
  have hc : PySem.W.Looks (model prog w) hp (classData C) cd := PySem.W.looks_clsIn X hcd
  obtain ⟨nm, bs, mro, ns, qn, hd, sn, sb, ab, col, dl⟩ := cd
  cases hh
  unfold storeInOwnDict ownDictForStores
  repeat (first | with_reducible refine PySem.HandSPX.store_in_new ?_ ?_ | with_reducible refine wpAny_loadPart_at hx ?_ | with_reducible refine hc.at ?_ | wp_step)
  · exact ⟨_, #[], _, (Heap.get?_update_ne _ _ _ _ far.symm).trans (Heap.get?_push_at rfl rfl), rfl, (fun e he => by simp at he), fun _ => rfl⟩
  · intro h' tk' hn hs
    refine hQ _ (hq h' tk' hp.objs.size (fun c o hc ho => ?_) (Nat.le_refl _) far.symm ?_ hn)
    · rw [hs.2 c (Nat.ne_of_lt (Heap.lt_size ho)), Heap.get?_update_ne _ _ _ _ hc]
      exact Heap.get?_push_of_some _ ho
    · rw [hs.2 x far]
      exact Heap.get?_update_self _ (Heap.get?_push_of_some _ hx) rfl
/-- a further field -/
theorem osaG_old {K : PySem.W.Frag} {name : Str} {tk : Tok} {v : Value} {x C dx : Addr} {fv : Array Value} {cd : ClassData} {m0 : Str → Option Value} {nl : List Str} {b : XB} (hb : b.Ok) (X : K.In hp) (hx : hp.get? x = some { cls := .ref C, dict := some dx, data := .fields fv }) (hns : hp.Ns1 dx m0) (hw : Within m0 nl) (hz : nl.length ≤ 1000)
    (hcd : PySem.W.clsIn K C = some cd) (hm : downTo b.tl cd.mro = true) (hh : cd.hasDict = true) (ha : PySem.W.findIn K (.ref C) name = some none)
    (hq : ∀ h' tk', (∀ c o, c ≠ dx → hp.get? c = some o → h'.get? c = some o) → h'.Ns1 dx (fun y => if y = name then some v else m0 y) → R (.ok (.ret .none)) ⟨h', g, d, tk', os⟩) :
    codeAny (model prog w) A (.call (.builtin "object.__setattr__") ⟨[.ref x, .str name tk, v], []⟩) R ⟨hp, g, d, t, os⟩ := by
  obtain ⟨oD, _, _, hoD, _, _⟩ := hns.count hw
  refine osaG hb X (ox := { cls := .ref C, dict := some dx, data := .fields fv }) (od := some oD) ⟨hx, rfl, rfl, hoD⟩ hcd hm ha fun Q hQ => ?_
  have hc : PySem.W.Looks (model prog w) hp (classData C) cd := PySem.W.looks_clsIn X hcd
  obtain ⟨nm, bs, mro, ns, qn, hd, sn, sb, ab, col, dl⟩ := cd
  cases hh
  unfold storeInOwnDict ownDictForStores
  repeat (first | with_reducible refine PySem.OEX.store_in_old hns hw hz ?_ | with_reducible refine wpAny_loadPart_at hx ?_ | with_reducible refine hc.at ?_ | wp_step)
  intro h' tk' hn hs
  exact hQ _ (hq h' tk' (fun c o hc ho => (hs.2 c hc).trans ho) hn)
end
section
variable {X : Cx} {pins : List (Addr × Obj)} {σ : L2.St} {H : Hp} {s : Shared} {a C dx : Addr} {b : XB} {f : Str} {y : V} {u : Value} {fs : List (Str × V)} {Q : Unit → Shared → Prop} {E : Value → Shared → Prop} {A : Around}
theorem ostG_new (T : OexG X.K C b) (I : Inv X pins σ H s) (e : H a = some (exo a C none)) (hno : PySem.W.findIn X.K (.ref C) f = some none) (ry : RelV y u)
    (h : ∀ dx s', H dx = none → dx ≠ a → Inv X pins σ (upd (upd H dx (exd dx [(f, y)])) a (exo a C (some dx))) s' → Q () s') : wpAny (model X.prog X.w) A (setAttr (.ref a) f u) Q E s := by
  obtain ⟨nm, q, N, bs, bm, sn, sub, ab, col, dd, k0, k1, k2, k3, k5, hC, hbm⟩ := T.cls
  have hcl : PySem.W.clsIn X.K C = some { name := nm, bases := bs, mro := .ref C :: bm, ns := N, qualname := q, hasDict := true, slotNames := sn, subclasses := sub, abstract := ab, collection := col, hasDel := false } := by unfold PySem.W.clsIn; rw [hC] <;> rfl
  obtain ⟨t1, ho⟩ := exo_at I.hok e
  obtain ⟨hp, g, d, t, os⟩ := s
  refine PySem.W.set_plain I.kIn (ox := { cls := .ref C, dict := none, data := .fields #[.ref t1, .none, .none, .none, .bool false, .none] }) (od := none) ⟨ho, rfl, rfl, trivial⟩ T.sa ?_
  refine osaG_new T.ok I.kIn ho hcl (show downTo b.tl (.ref C :: bm) = true from hbm) rfl hno (fun h' tk' dx k dn dne hx hn => ?_)
  have new : H dx = none := I.hok.fresh dn
  have old : ∀ {c : Addr} {o : Obj}, hp.get? c = some o → c ≠ dx := fun q => Nat.ne_of_lt (Nat.lt_of_lt_of_le (Heap.lt_size q) dn)
  have notA : ∀ {c : Addr}, H c = none → c ≠ a := fun n z => by rw [z, e] at n; cases n
  have atA : ∀ {c : Addr} {o : HO}, H c = some o → exo a C none ≠ o → upd (upd H dx (exd dx [(f, y)])) a (exo a C (some dx)) c = some o := fun q n => by
    rw [upd_ne (at_ne e q n), upd_ne (ne_of_none q new)]
    exact q
  have stays : Un X.fs [] H (upd (upd H dx (exd dx [(f, y)])) a (exo a C (some dx))) hp h' := {
    keep := fun c o q n _ _ => k c o (notA n) q
    slot := fun c o q n _ _ => ⟨o.slots, k c o (notA n) q⟩
    free := fun c o q n _ => by rw [upd_ne (notA n), upd_ne (old q)]; exact n
    there := fun c o q _ => by
      by_cases hc : c = a
      · subst hc
        exact ⟨_, hx⟩
      · exact ⟨o, k c o hc q⟩
    tups := fun c xs q => atA q exo_tup
    frzs := fun c o v q => atA q exo_frz
    tbls := fun c ps q => ⟨#[], by rw [atA q exo_tbl]; simp⟩ }
  refine h dx _ new dne (I.un (t' := tk') stays fun c o q => ?_)
  by_cases ca : c = a
  · subst ca
    rw [upd_same] at q
    cases q
    exact exo_ok hx
  rw [upd_ne ca] at q
  by_cases cd : c = dx
  · subst cd
    rw [upd_same] at q
    cases q
    exact exd_ok hn (relO_put (fs := []) ry fun _ => True.intro)
  rw [upd_ne cd] at q
  refine (I.hok c o q).stay (fun c' v hc z => k c' v ?_ z) (fun c' hc => atA hc exo_own) (fun c' xs hc => atA hc exo_tup)
  rcases hc with hc | hc
  · rw [hc]; exact ca
  · exact at_ne e hc exo_own
theorem ostG_old (T : OexG X.K C b) (I : Inv X pins σ H s) (e : H a = some (exo a C (some dx))) (ed : H dx = some (exd dx fs)) (hl : fs.length ≤ 900) (hno : PySem.W.findIn X.K (.ref C) f = some none) (ry : RelV y u)
    (h : ∀ s', Inv X pins σ (upd H dx (exd dx ((f, y) :: fs))) s' → Q () s') : wpAny (model X.prog X.w) A (setAttr (.ref a) f u) Q E s := by
  obtain ⟨nm, q, N, bs, bm, sn, sub, ab, col, dd, k0, k1, k2, k3, k5, hC, hbm⟩ := T.cls
  have hcl : PySem.W.clsIn X.K C = some { name := nm, bases := bs, mro := .ref C :: bm, ns := N, qualname := q, hasDict := true, slotNames := sn, subclasses := sub, abstract := ab, collection := col, hasDel := false } := by unfold PySem.W.clsIn; rw [hC] <;> rfl
  obtain ⟨t1, ho⟩ := exo_at I.hok e
  obtain ⟨mA, hns, rel⟩ := exd_at I.hok ed
  obtain ⟨hp, g, d, t, os⟩ := s
  obtain ⟨oD, _, _, hoD, _, _⟩ := hns.count (within_of rel)
  refine PySem.W.set_plain I.kIn (ox := { cls := .ref C, dict := some dx, data := .fields #[.ref t1, .none, .none, .none, .bool false, .none] }) (od := some oD) ⟨ho, rfl, rfl, hoD⟩ T.sa ?_
  refine osaG_old T.ok I.kIn ho hns (within_of rel) (by rw [List.length_map]; omega) hcl (show downTo b.tl (.ref C :: bm) = true from hbm) rfl hno (fun h' tk' k hn => h _ ?_)
  have there : ∃ o, h'.get? dx = some o := by
    obtain ⟨o, _, _, z, _⟩ := hn
    exact ⟨o, z⟩
  exact I.write (t' := tk') (x := dx) (e := dx) (o := exd dx ((f, y) :: fs)) (by rw [ed]; exact True.intro) (.inl rfl) k there (exd_ok hn (relO_put ry rel))
end
/-- self.f = e in an own error's __init__ -/
def tOstG (K : PySem.W.Frag) (f : Str) (to te : TE) : TS := fun D σ H => te σ H fun y H1 => to σ H1 fun x H2 => ∃ (a C : Addr) (b : XB), x = .ref a ∧ OexG K C b ∧ PySem.W.findIn K (.ref C) f = some none ∧
  ((H2 a = some (exo a C none) ∧ ∀ dx, H2 dx = none → dx ≠ a → D.nx σ (upd (upd H2 dx (exd dx [(f, y)])) a (exo a C (some dx)))) ∨
    ∃ (dx : Addr) (fs : List (Str × V)), H2 a = some (exo a C (some dx)) ∧ H2 dx = some (exd dx fs) ∧ fs.length ≤ 900 ∧ D.nx σ (upd H2 dx (exd dx ((f, y) :: fs))))
section
variable {X : Cx} {o e : Expr} {es : List Expr} {to te : TE} {ta : TA} {f : Str} {p p' pos : Pos}
theorem ps_ostG (ho : PE X o to) (he : PE X e te) (hs : swapsWith e (some (.Attribute o f p')) pos.line X.env = pure false := by rfl) : PS X (.Assign [.Attribute o f p'] e pos) (tOstG X.K f to te) := by
  constructor
  intro pins s σ H D I h
  refine plainObj_wpAny_Assign_Attribute (thn (he.run pins s σ H _ I h) ?_) hs
  rintro v s1 ⟨y, H1, I1, r1, q1⟩
  refine thn (ho.run pins s1 σ H1 _ I1 q1) ?_
  rintro u s2 ⟨x, H2, I2, r2, a, C, b, rfl, T, hno, q⟩
  obtain rfl : u = Value.ref a := r2
  rcases q with ⟨ea, q⟩ | ⟨dx, fs, ea, ed, hl, q⟩
  · exact ostG_new T I2 ea hno r1 fun dx s' n ne J => ⟨σ, _, J, q dx n ne⟩
  · exact ostG_old T I2 ea ed hl hno r1 fun s' J => ⟨σ, _, J, q⟩
/-- C(e, ..) by its own __init__, to be raised -/
theorem pmkG {CX : CXT} {x : Str} {C fI : Addr} {b : XB} {k : Nat} {fd : FuncData} {ps : List Str} {sp : Sp} {ds : List Value} {dvs : List V} (T : OexG X.K C b) (iC : PySem.W.findIn X.K (.ref C) "__init__" = some (some (.ref fI))) (tI : PySem.W.typeIn X.K (.ref fI) = some (.type "function"))
    (F1 : FnOk X.prog X.w X.K X.mg X.base CX k fI fd ps sp) (hr : Room (k + 1) X.A) (hb : Binds X.K fd ps ds) (hd : Vals dvs ds) (hx : Passes CX X (fun _ _ _ => False)) (hg : Gl X x) (hm : X.mg x = some (.ref C)) (ha : PA X (e :: es) ta)
    (hdb : (x == ("__debug__" : Str)) = false := by decide) (he : starEach (e :: es) X.env = (false, eval e X.env) :: starEach es X.env := by rfl) (hpl : (backTo pos (starEach es X.env)).any (·.1) = false := by rfl) :
    PMk X (.Call (.Name x p) (e :: es) [] pos) (tMkO C sp dvs ta) := by
  intro pins s σ H Q I h
  obtain ⟨nm, q, N, bs, bm, sn, sub, ab, col, dd, k0, k1, k2, k3, k5, hC, hbm⟩ := T.cls
  refine wpAny_Call_Name_kw (ld_glob I hg hm ?_ hdb)
  refine PySem.W.callWith_K (h₀ := X.base) I.ok.mod.kin T.kC (thn (ha.run pos pins s σ H _ I h) ?_) he hpl
  rintro us ⟨hp, g, dr, tk, os⟩ ⟨vs, H1, I1, r1, hz, q1⟩
  refine ⟨I1.kIn, ?_⟩
  show wpAny _ _ (call (.ref C) us) _ _ _
  have up : hp.objs.size ≤ hp.objs.size + 1 := Nat.le_succ _
  have go := q1 (hp.objs.size + 1) (I1.hok.fresh up)
  generalize eH : (hp.push (PySem.W.kdv_tup us)).push (PySem.HandSPX.excO C hp.objs.size) = hh
  have kk : ∀ c o, hp.get? c = some o → hh.get? c = some o := fun c o z => by rw [← eH]; exact Heap.get?_push_of_some _ (Heap.get?_push_of_some _ z)
  have here : hh.get? (hp.objs.size + 1) = some (PySem.HandSPX.excO C hp.objs.size) := by rw [← eH]; heap_get
  have I2 : Inv X pins σ (upd H1 (hp.objs.size + 1) (exo (hp.objs.size + 1) C none)) ⟨hh, g, dr, tk, os⟩ := I1.laid (t' := tk) kk up (exo_ok here)
  have rel : Vals (V.ref (hp.objs.size + 1) :: (vs ++ dvs)) (Value.ref (hp.objs.size + 1) :: (us ++ ds)) := .cons rfl (r1.append hd)
  have size : (Value.ref (hp.objs.size + 1) :: us ++ ds).length = ps.length := rel.length.symm.trans (F1.len _ _ _ _ go)
  have few : us.length ≤ sizeLine := by
    rw [← Paired.length r1, sizeLine_eq]
    omega
  obtain ⟨Bn, inN, tlN, FN, TN⟩ := T.ok.tail (C := C) hbm
  refine wpAny_call (call2 FN TN (I1.kIn _ _ hC) (PySem.W.looks_findIn I1.kIn iC) (fun self => PySem.W.bind_fn I1.kIn self tI) few ?_)
  rw [eH]
  refine codeAny_mono (F1.run _ X.stack _ _ ⟨Value.ref (hp.objs.size + 1) :: us, []⟩ (Value.ref (hp.objs.size + 1) :: (us ++ ds)) _ _ (fun _ _ _ => False) (hr.make C us []) (I2.env0.make C us []) (hb _ (Value.ref (hp.objs.size + 1) :: us) I2.kIn size) rel go) ?_
  intro r s' z
  match r, z with
  | .error er, z => exact hx pins σ _ _ er s' I2 z
  | .ok .next, z => exact False.elim z
  | .ok .brk, z => exact False.elim z
  | .ok .cont, z => exact False.elim z
  | .ok (.ret u), ⟨v, H2, os2, bare2, un2, hok2, rv, ev, d, fs, ea, ed, hd1, q2⟩ =>
    subst ev
    obtain ⟨h2, g2, d2, t2, os'⟩ := s'
    exact ⟨rv, mk_end (raises_own T.exC T.tyC) I1 up kk un2 hok2 os2 bare2 ea ed hd1 q2⟩
end
/-! ### super().__init__(..) first -/
structure SupG (P : Program) (K : PySem.W.Frag) (C cda cc : Addr) (b : XB) : Prop where
  oex : OexG K C b
  code : ∃ ccl cdd cvs ccs file tf, K.lookup cda = some ⟨ccl, cdd, .fields cvs, ccs⟩ ∧ cvs[2]? = some (.str file tf) ∧ ((P.main.file : Str) == file) = true
  cell : ∃ cl cld csl, K.lookup cc = some ⟨cl, cld, .cell (some (.ref C)), csl⟩
  self : PySem.W.mroIn K C (.ref C) = some true
  opq : PySem.W.nsIn K cStatics "thirdparty.any" = some none
  up : PySem.W.ks_superIn K C C "__init__" = some (some (.builtin b.ini))
  sub : PySem.W.subIn K (.ref C) (.type b.B) = some true
  top : (P.main.scope.names.lookup ("super" : Str)).isSome = false
section
variable {P : Program} {w : World} {K : PySem.W.Frag} {mg : Str → Option Value} {base : Heap}
/-- the bound __init__ of the base, called -/
theorem boundG {X : Cx} {pins : List (Addr × Obj)} {σ : L2.St} {H : Hp} {s : Shared} {a C u : Addr} {b : XB} {A : Around} {E : Value → Shared → Prop} {us : List Value} {Q : Value → Shared → Prop} (T : OexG X.K C b) (I : Inv X pins σ H s) (e : H a = some (exo a C none))
    (hu : s.heap.get? u = some (PySem.W.kxs_mw b.ini a)) (hl : us.length ≤ sizeLine) (h : ∀ s', Inv X pins σ H s' → Q .none s') : wpAny (model X.prog X.w) A (call (.ref u) us) Q E s := by
  obtain ⟨nm, q, N, bs, bm, sn, sub, ab, col, dd, k0, k1, k2, k3, k5, hC, hbm⟩ := T.cls
  obtain ⟨t1, ho⟩ := exo_at I.hok e
  have hC' := I.kIn _ _ hC
  obtain ⟨hp, g, d, t, os⟩ := s
  refine wpAny_call (codeAny_of_tree ?_)
  show wpAny _ A.in1 (callAny (.ref u) ⟨us, []⟩) _ _ _
  simp only [callAny]
  refine wpAny_bind (wpAny_load hu ?_)
  simp only [PySem.W.kxs_mw, show (Value.type "method-wrapper" == Value.type "method" || Value.type "method-wrapper" == Value.type "builtin_function_or_method" || Value.type "method-wrapper" == Value.type "method-wrapper") = true by decide, if_true]
  refine PySem.W.KFB.if_so (by decide) ?_
  refine wpAny_bind (chkIni T.ok.inif hC' ho rfl ?_)
  refine wpAny_bind (wpAny_pure (wpAny_pure ?_))
  refine ⟨plainId_quiet T.ok.inif.plain _, codeAny_builtin T.ok.inif.entry ?_⟩
  refine PySem.W.exc_init_tree (cls := .ref C) (t0 := t1) (dv := none) (c2 := .none) (c3 := .none) (b4 := .bool false) ho hl fun h' k hx _ => ?_
  have J := I.write (t' := t) (x := a) (e := a) (o := exo a C none) (by rw [e]; exact True.intro) (.inl rfl) k ⟨_, hx⟩ (exo_ok hx)
  have eu : upd H a (exo a C none) = H := by
    funext b
    by_cases hb : b = a
    · rw [hb, upd_same, e]
    · rw [upd_ne hb]
  rw [eu] at J
  exact h _ J
end
end Cr
/-! len(o) by an own __len__ -/
namespace Cr
open PySem PySem.Spec PyProof.Rows L2 Evl
theorem Env0.in1 {P : Program} {w : World} {K : PySem.W.Frag} {mg : Str → Option Value} {base : Heap} {A : Around} {outer : List Env} {s : Shared} {H : Hp} (e : Env0 P w K mg base A outer s H) : Env0 P w K mg base A.in1 outer s H :=
  ⟨e.frames, e.mod, e.bs, e.bsz, e.funs, e.frf, e.hok, e.bare⟩
/-- a special method of an own class, called by a built-in -/
theorem special_own {X : Cx} {pins : List (Addr × Obj)} {σ : L2.St} {H : Hp} {s : Shared} {a C dx f : Addr} {fs : List (Str × V)} {name : Str} {k : Nat} {fd : FuncData} {ps : List Str} {sp : Sp} {A : Around} {us : List Value} {vs : List V} {Q : VK} {R : Option Value → Shared → Prop} {E : Value → Shared → Prop}
    (hL : PySem.W.findIn X.K (.ref C) name = some (some (.ref f))) (tF : PySem.W.typeIn X.K (.ref f) = some (.type "function")) (F : FnOk X.prog X.w X.K X.mg X.base CX0 k f fd ps sp) (hb : Binds X.K fd ps [])
    (hr : Room k A) (e0 : Env0 X.prog X.w X.K X.mg X.base A X.stack s H) (I : Inv X pins σ H s) (ha : H a = some (.ins C dx fs)) (r : Vals vs us) (h : sp (.ref a :: vs) H Q E0)
    (k : ∀ v u H' s', Inv X pins σ H' s' → RelV v u → Q v H' → R (some u) s') : wpAny (model X.prog X.w) A (callSpecial? (.ref a) name us) R E s := by
  obtain ⟨mA, J, _⟩ := ins_get I.hok ha
  obtain ⟨od, J, _⟩ := J.look
  have look : PySem.W.Looks (model X.prog X.w) s.heap (specialOf (.ref a) name) (some (.ref f)) := J.type.andThen (PySem.W.looks_findIn I.kIn hL)
  simp only [callSpecial?]
  refine wpAny_bind (look.at ?_)
  refine wpAny_holding (wpAny_bind ((PySem.W.bind_fn I.kIn (.ref a) tF).at ?_))
  refine wpAny_bind ?_
  have rel : Vals (V.ref a :: vs) (Value.ref a :: us) := .cons rfl r
  have size : (Value.ref a :: us).length = ps.length := rel.length.symm.trans (F.len _ _ _ _ h)
  refine wpAny_call (codeAny_mono (F.run A X.stack s H ⟨.ref a :: us, []⟩ (.ref a :: us) (.ref a :: vs) Q E0 hr e0 (by
    have z := hb s (.ref a :: us) I.kIn (by simpa using size)
    simpa using z) rel h) fun res s' z => ?_)
  match res, z with
  | .error _, z => exact z.elim
  | .ok .next, z => exact False.elim z
  | .ok .brk, z => exact False.elim z
  | .ok .cont, z => exact False.elim z
  | .ok (.ret u), z =>
    obtain ⟨v, H', I', rv, q⟩ := I.after z
    exact wpAny_pure (k v u H' s' I' rv q)
def rLenO (C : Addr) (sp : Sp) : List V → Hp → VK → Prop := fun xs H Q => ∃ (a dx : Addr) (fs : List (Str × V)), xs = [.ref a] ∧ H a = some (.ins C dx fs) ∧ sp [.ref a] H (fun v H' => ∃ n : Nat, v = .int (n : Int) ∧ n ≤ 100000 ∧ Q (.int (n : Int)) H') E0
theorem call_lenO {X : Cx} {C f : Addr} {k : Nat} {fd : FuncData} {ps : List Str} {sp : Sp} (hL : PySem.W.findIn X.K (.ref C) "__len__" = some (some (.ref f))) (tF : PySem.W.typeIn X.K (.ref f) = some (.type "function"))
    (F : FnOk X.prog X.w X.K X.mg X.base CX0 k f fd ps sp) (hb : Binds X.K fd ps []) (hr : Room (k + 1) X.A) : CallR X (.builtin "len") (rLenO C sp) := by
  intro pins s σ H xs us Q I r h
  obtain ⟨a, dx, fs, rfl, ha, h⟩ := h
  obtain ⟨u, rfl, ru⟩ := vals1 r
  obtain rfl : u = Value.ref a := ru
  refine Calls.call_function_entry kind_len plain_len entry_len (args_len1 _) ?_
  unfold Builtin.«len»
  refine wpAny_bind (m := oneArg "len" _) (wpAny_pure ?_)
  refine wpAny_bind (m := callSpecial? (.ref a) (PySem.Str.ofString "__len__")) (special_own (us := []) (vs := []) hL tF F hb hr.in1 (Env0.in1 I.env0) I ha .nil h ?_)
  rintro v u H' s' I' rv ⟨n, rfl, hn, q⟩
  obtain ⟨t, rfl⟩ := rv
  refine wpAny_bind (wpAny_holding (wpAny_pure ?_))
  refine wpAny_bind (wpAny_letGo ?_)
  show wpAny _ _ (if ((n : Nat) : Int) < 0 then _ else _) _ _ _
  rw [if_neg (by omega)]
  show wpAny _ _ (if ((n : Nat) : Int) ≥ 2 ^ 63 then _ else _) _ _ _
  rw [if_neg (by omega)]
  exact wpAny_bind (wpAny_mkInt (wpAny_pure ⟨_, rfl, .int (n : Int), H', I'.tok _, ⟨_, rfl⟩, q⟩))
end Cr
/-! methods that may raise, called in a try -/
/-! defs that may raise, where no repr is under way; a caught error asked -/
namespace Cr
open PySem PySem.Spec PyProof.Rows L2 Evl
/-! ### isinstance of a caught error that has its dict -/
def rIsX (K : PySem.W.Frag) (D a dd : Addr) : List V → Hp → VK → Prop := fun xs H Q => ∃ (c : V) (b : Bool), xs = [.ref a, c] ∧ (∃ fs, H dd = some (.xd fs)) ∧
  ((∃ u, ClsV c u ∧ PySem.W.kitOne K (.ref D) u = some b) ∨ ∃ (tp : Addr) (cs : List V) (us : List Value), c = .ref tp ∧ H tp = some (.tup cs) ∧ Paired ClsV cs us ∧ PySem.W.kitAny K (.ref D) us = some b) ∧ Q (.bl b) H
theorem call_isX {X : Cx} {a D dd : Addr} {oe : Obj} {pn : List (Addr × Obj)} (C : ExcC X.K D) (hz : Zc (.ref D) (some dd) oe) (hf : ∃ vs, oe.data = .fields vs) : CallR (X.suite a ((a, oe) :: pn)) (.builtin "isinstance") (rIsX X.K D a dd) := by
  intro pins s σ H xs us Q I r h
  obtain ⟨c, b, rfl, ⟨fs, hdd⟩, k, q⟩ := h
  obtain ⟨u1, u2, rfl, r1, r2⟩ := vals2 r
  obtain rfl : u1 = Value.ref a := r1
  obtain ⟨hget, _⟩ := I.pin (a, oe) (List.mem_append.mpr (.inl List.mem_cons_self))
  obtain ⟨vs, hv⟩ := hf
  have hx : ObjOk X.prog X.w H s.heap dd (.xd fs) := I.hok dd _ hdd
  obtain ⟨mA, hns, hr⟩ := hx
  obtain ⟨od, ho, _⟩ := lookIn_ns hns
  have J : PySem.W.InstAt s.heap a oe D (some od) := by
    refine ⟨hget, hz.1, by unfold PySem.W.notCls; rw [hv] <;> rfl, ?_⟩
    rw [hz.2]
    exact ho
  have hcl : (PySem.W.clsIn X.K D).isSome = true := by
    obtain ⟨cd, hc, _⟩ := PySem.W.any_some C.hd
    rw [hc]; rfl
  have Z : PySem.W.KitX X.K (.ref a) (.ref D) (fun h => PySem.W.InstAt h a oe D (some od)) := PySem.W.kitx_exc hcl C.hg C.hk C.hs C.ha C.hn C.ht C.hm
  rcases k with ⟨u, ku, e⟩ | ⟨tp, cs, us', rfl, hT, ku, e⟩
  · have e2 := ku.eq r2
    subst e2
    exact PySem.W.kia_one Z I.kIn J e (fun z => nomatch z) fun tk => ⟨.bl b, H, I.tok tk, rfl, q⟩
  · cases (show u2 = Value.ref tp from r2)
    obtain ⟨_, its, rv, o, h1, h2, n, h3⟩ := (show ObjOk X.prog X.w H s.heap tp (.tup cs) from I.hok tp _ hT)
    have e3 := ClsV.all ku rv
    subst e3
    obtain ⟨oc, od', dt, sl⟩ := o
    simp only at h2 h3
    subst h2 h3
    exact PySem.W.kia_tup Z I.kIn J h1 e (fun z => nomatch z) fun tk => ⟨.bl b, H, I.tok tk, rfl, q⟩
/-! ### an error with one number -/
end Cr
/-! the program's own defs -/
namespace Cr
open PySem PySem.Spec PyProof.Rows L2 Evl
def topS (i : Nat) : Stmt := PySem.Challenge.pw_cycleready_k21_needs_recorded_and_delete.main.body.getD i (.Pass ⟨0, 0, 0, 0⟩)
abbrev sIsName : Stmt := topS 10
theorem scIsName : FnScope ["value", "letter"] ["value"] (defScope sIsName) := ⟨rfl, rfl, rfl, by decide +kernel, rfl, by decide +kernel, by decide +kernel⟩
/-- the built-ins are the built-ins -/
structure Blt (mg : Str → Option Value) : Prop where
  isi : mg "isinstance" = none
  int : mg "int" = none
  bool : mg "bool" = none
  str : mg "str" = none
  tuple : mg "tuple" = none
  list : mg "list" = none
  len : mg "len" = none
  all : mg "all" = none
  zip : mg "zip" = none
  repr : mg "repr" = none
  range : mg "range" = none
  max : mg "max" = none
  min : mg "min" = none
  abs : mg "abs" = none
  divmod : mg "divmod" = none
  enum : mg "enumerate" = none
  sorted : mg "sorted" = none
  sup : mg "super" = none
  verr : mg "ValueError" = none
  rerr : mg "RuntimeError" = none
  dict : mg "dict" = none
  lerr : mg "LookupError" = none
  kerr : mg "KeyError" = none
  aerr : mg "ArithmeticError" = none
  set : mg "set" = none
  any : mg "any" = none
theorem bLerr : bootBuiltins "LookupError" = some (.type "LookupError") := by decide +kernel
theorem bSet : bootBuiltins "set" = some (.type "set") := by decide +kernel
theorem bIsi : bootBuiltins "isinstance" = some (.builtin "isinstance") := by decide +kernel
theorem bLen : bootBuiltins "len" = some (.builtin "len") := by decide +kernel
theorem bAll : bootBuiltins "all" = some (.builtin "all") := by decide +kernel
theorem bRepr : bootBuiltins "repr" = some (.builtin "repr") := by decide +kernel
theorem bInt : bootBuiltins "int" = some (.type "int") := by decide +kernel
theorem bStr : bootBuiltins "str" = some (.type "str") := by decide +kernel
theorem bTuple : bootBuiltins "tuple" = some (.type "tuple") := by decide +kernel
theorem bDict : bootBuiltins "dict" = some (.type "dict") := by decide +kernel
theorem bVerr : bootBuiltins "ValueError" = some (.type "ValueError") := by decide +kernel
theorem bList : bootBuiltins "list" = some (.type "list") := by decide +kernel
/-! ### what they say -/
def isInteger (d : PyData) : Bool := isT "int" d && !isT "bool" d
def atLeast (n : Int) : PyData → Bool
  | .int i => decide (n ≤ i)
  | _ => false
def isNameS (x : Str) : Bool := (decide ((1 : Int) ≤ x.length) && decide ((x.length : Int) ≤ 8)) && x.cps.toList.all isLow
def isName : PyData → Bool
  | .str x => isNameS x
  | _ => false
def vars4 : List Str := ["a", "b", "c", "d"]
def isVar : PyData → Bool
  | .str x => vars4.any fun y => y == x
  | _ => false
section
variable {P : Program} {w : World} {K : PySem.W.Frag} {mg : Str → Option Value} {base : Heap}
theorem memS : "str" ∈ ["int", "bool", "str", "list", "tuple", "dict"] := by decide
theorem ok_isName {f : Addr} {fd : FuncData} {k : Nat} (F : Fun K "is_name" "is_name" sIsName f fd) (B : Blt mg) {tL : Tok} (gL : mg "LONGEST_NAME" = some (.int 8 tL)) : FnOk P w K mg base CX0 (k + 1) f fd ["value"] (spD isName) := by
  refine F.ok scIsName spD_len (fun cdv A outer s H vs Q E hr h => ?_)
  obtain ⟨v, d, rfl, hd, hs, q⟩ := h
  refine ⟨_, pss_cons (ps_if (PW.pt (pw_or (pt_not (pt_val (pe_callB call_isi (by rfl) B.isi bIsi (pa_cons (pv 0) (pa_cons (pe_bltn (v := .ty "str") (by rfl) B.str bStr rfl) pa_nil)))))
      (pw_or1 (pt_not (pt_chain op_le op_le pe_int (pe_callB call_len_str (by rfl) B.len bLen (pa_cons (pv 0) pa_nil)) (pe_glob (v := .int 8) (by rfl) gL ⟨_, rfl⟩))))))
      (pss_one (ps_ret pe_bl)) pss_nil)
    (pss_one (ps_ret (pe_callB (cr_all rfl) (by rfl) B.all bAll (pa_cons
      (pe_lc (own := [("letter", 1)]) (g := gName 1) (tt := tYes) rfl scIsName.nd (pi_str (pv 0)) (blkOk_by (own := [("letter", 1)]) (N := ["value", "letter"]) (sc := defScope sIsName) (by decide +kernel))
        (fun _ _ _ _ _ => pg_name (i := 1) scIsName.nd rfl (Or.inl rfl)) (fun _ _ _ _ _ => pts_nil) (fun _ _ _ _ _ => pe_chain op_leS op_leS pe_str (pv 1) pe_str)) pa_nil)))), ?_⟩
  have isS := rc_isi (K := K) hd memS
  cases hd with
  | str x =>
    have hx : x.length ≤ 1000 := by
      rw [sm] at hs
      exact of_decide_eq_true hs
    refine q_when (et_or (et_not (et_B (ev_cb (ea_cons (ev_var rfl) (ea_cons ev_c ea_nil)) isS))) fun _ => et_not (et_test (ev_chain ev_c (ev_cb (ea_cons (ev_var rfl) ea_nil) (rc_lenS hx)) rv_I0 (fun _ => ev_c) fun _ => rv_I0))) (fun hb H1 e1 => ?_) (fun hb H1 e1 => ?_)
    · refine s_ret ev_c fun H2 e2 => ?_
      have z : isName (.str x) = false := by
        have hb' : (!(isT "str" (.str x)) || !(decide ((1 : Int) ≤ x.length) && decide ((x.length : Int) ≤ 8))) = true := hb
        have e : isT "str" (.str x) = true := rfl
        rw [e, Bool.not_true, Bool.false_or] at hb'
        show ((decide ((1 : Int) ≤ x.length) && decide ((x.length : Int) ≤ 8)) && x.cps.toList.all isLow) = false
        rw [Bool.not_eq_true'] at hb'
        rw [hb', Bool.false_and]
      have g := q H2 (e1.trans e2)
      rw [z] at g
      exact g
    · have ch : ∀ c : Nat, (!decide ((⟨#[c]⟩ : Str).cps.toList < (("a" : Str)).cps.toList) && !decide ((("z" : Str)).cps.toList < (⟨#[c]⟩ : Str).cps.toList)) = isLow c := fun c => by
        have ea : (("a" : Str)).cps.toList = [97] := by decide +kernel
        have ez : (("z" : Str)).cps.toList = [122] := by decide +kernel
        have ec : (⟨#[c]⟩ : Str).cps.toList = [c] := rfl
        rw [ea, ez, ec, one_lt, one_lt]
        unfold isLow
        congr 1
        · by_cases hc : 97 ≤ c
          · rw [decide_eq_true hc, decide_eq_false (show ¬ c < 97 by omega)]; rfl
          · rw [decide_eq_false hc, decide_eq_true (show c < 97 by omega)]; rfl
        · by_cases hc : c ≤ 122
          · rw [decide_eq_true hc, decide_eq_false (show ¬ 122 < c by omega)]; rfl
          · rw [decide_eq_false hc, decide_eq_true (show 122 < c by omega)]; rfl
      have lc := el_lcW (wi := iStr (tVar 0)) (g := gName 1) (tt := tYes) (te := tChain rLeS rLeS (tC (.str "a")) (tVar 1) (tC (.str "z"))) (vs := [1]) (σ := start ["value", "letter"] [V.str x]) (H := H1) (fun _ => true) (fun i => .bl (isLow (x.cps.toList.getD i 0))) (Y := fun i H v H' => H' = H ∧ ∃ c, x.cps[i]? = some c ∧ v = .str ⟨#[c]⟩) (n := x.cps.size) (by have : x.cps.size = x.length := rfl; omega)
        (fun H2 e R r => ⟨.str x, rfl, x, rfl, r H2 _ _ walk_str (fun _ _ _ z => z) (Ex.refl H2) trivial⟩) (fun i y H2 H3 e hi hy => by
          obtain ⟨rfl, c, hc, rfl⟩ := hy
          refine ⟨Ex.refl _, [some (.str x), some (.str ⟨#[c]⟩)], rfl, fun R r => r, fun H4 _ Q q => q H4 (Ex.refl H4), fun _ => ?_⟩
          have ec : x.cps.toList.getD i 0 = c := by
            rw [List.getD, Array.getElem?_toList, hc]; rfl
          show Ev _ _ _ (.bl (isLow (x.cps.toList.getD i 0)))
          rw [ec, ← ch c]
          exact ev_chain ev_c (ev_var rfl) rv_leS (fun _ => ev_c) fun _ => rv_leS)
      have e1' : given x.cps.size (fun _ => true) (fun i => V.bl (isLow (x.cps.toList.getD i 0))) = ((List.range x.cps.size).map fun i => isLow (x.cps.toList.getD i 0)).map V.bl := by
        rw [given_all, List.map_map]; rfl
      rw [e1'] at lc
      refine s_ret (ev_all lc) fun H2 e2 => ?_
      have hb' : (!(isT "str" (.str x)) || !(decide ((1 : Int) ≤ x.length) && decide ((x.length : Int) ≤ 8))) = false := hb
      have e : isT "str" (.str x) = true := rfl
      rw [e, Bool.not_true, Bool.false_or, Bool.not_eq_false'] at hb'
      have z : isName (.str x) = ((List.range x.cps.size).map fun i => isLow (x.cps.toList.getD i 0)).all id := by
        show ((decide ((1 : Int) ≤ x.length) && decide ((x.length : Int) ≤ 8)) && x.cps.toList.all isLow) = _
        rw [hb', Bool.true_and, ← all_range x.cps.toList 0 isLow]
        rfl
      have g := q H2 (e1.trans e2)
      rw [z] at g
      exact g
  | _ =>
    refine q_when (b := true) (et_is (et_or (et_not (et_B (ev_cb (ea_cons (ev_var rfl) (ea_cons ev_c ea_nil)) isS))) (b := false) fun z => absurd z (by first | decide | simp [isT, isTs, tyT])) (by first | decide | simp [isT, isTs, tyT])) (fun _ H1 e1 => s_ret ev_c fun H2 e2 => q H2 (e1.trans e2)) (fun z => absurd z (by decide))
end
end Cr
namespace Cr
open PySem PySem.Spec PyProof.Rows L2 Evl
/-! ### the mirror -/
def isItem (d : PyData) (k : Str) : Bool :=
  if k = "variable" then isVar d
  else if k = "integer" then isInteger d
  else if k = "length" then isInteger d && atLeast 1 d
  else isName d
def shapeOf (z : Str) : Option (List Str) :=
  if z = "set" then some ["variable", "integer"] else if z = "add" then some ["variable", "variable"] else if z = "skip" then some ["variable", "length"]
  else if z = "export" then some ["name", "variable"] else if z = "read" then some ["variable", "module", "name"] else if z = "need" then some ["module"]
  else if z = "try" then some ["module", "variable"] else if z = "fail" then some [] else none
def stepItems (ds : List PyData) (ks : List Str) : Bool := ((List.range ks.length).map fun i => isItem (ds.getD i .none) (ks.getD i "")).all id
def isStep : PyData → Bool
  | .tuple (.str z :: ds) => (match shapeOf z with
    | some ks => decide (ds.length = ks.length) && stepItems ds ks
    | none => false)
  | _ => false
theorem inV_strs (z : Str) (l : List Str) : inV (.str z) (l.map V.str) = l.any fun y => y == z := by
  unfold inV
  rw [List.any_map]
  rfl
theorem flat_strs (l : List Str) : (l.map V.str).all flatV = true := by
  rw [List.all_map]
  exact List.all_eq_true.mpr fun _ _ => rfl
end Cr
namespace Cr
open PySem PySem.Spec PyProof.Rows L2 Evl
/-! ### flat values -/
def flD : V → PyData
  | .bl b => .bool b
  | .int i => .int i
  | .str x => .str x
  | _ => .none
theorem dt_flat {H : Hp} {v : V} (h : flatV v = true) : Dt H v (flD v) := by
  cases v with
  | non => exact .non
  | bl b => exact .bl b
  | int i => exact .int i
  | str x => exact .str x
  | _ => exact absurd h (fun z => nomatch z)
theorem dtAll_flat {H : Hp} : ∀ {xs : List V}, xs.all flatV = true → DtAll H xs (xs.map flD)
  | [], _ => .nil
  | x :: r, h => by
    rw [List.all_cons, Bool.and_eq_true] at h
    exact .cons (dt_flat h.1) (dtAll_flat h.2)
/-! ### the steps -/
/-- one step over drawn names -/
def skipLen : PyData → Option Int
  | .tuple (.str z :: _ :: .int i :: _) => if z = "skip" then some i else none
  | _ => none
def skipOk (n : Int) (d : PyData) : Bool :=
  match skipLen d with
  | some i => decide (i ≤ n)
  | none => true
def isBefore (d : PyData) (n : Int) : Bool := isStep d && skipOk n d
def isExport : PyData → Bool
  | .tuple (.str z :: _) => z == "export"
  | _ => false
/-- the spot of a module in a step -/
def spotOf (z : Str) : Option Nat := if z = "need" then some 1 else if z = "try" then some 1 else if z = "read" then some 2 else none
def strOf : PyData → Option Str
  | .str x => some x
  | _ => none
/-- the module of a step -/
def modO : PyData → Option Str
  | .tuple (.str z :: ds) => (spotOf z).bind fun i => strOf ((PyData.str z :: ds).getD i .none)
  | _ => none
end Cr
namespace Cr
open PySem PySem.Spec PyProof.Rows L2 Evl
/-- a def of the program as it is called -/
structure HasO (P : Program) (w : World) (K : PySem.W.Frag) (mg : Str → Option Value) (base : Heap) (k : Nat) (x : Str) (ps : List Str) (sp : Sp) : Prop where
  ex : ∃ f fd, FnOk P w K mg base CX0 k f fd ps sp ∧ Binds K fd ps [] ∧ PySem.W.keepIn K (.ref f) = true ∧ mg x = some (.ref f)
/-- .. that may raise -/
structure HasE (P : Program) (w : World) (K : PySem.W.Frag) (mg : Str → Option Value) (base : Heap) (k : Nat) (x : Str) (ps : List Str) (sp : Sp) : Prop where
  ex : ∃ f fd, FnOk P w K mg base (L2.CX P w) k f fd ps sp ∧ Binds K fd ps [] ∧ PySem.W.keepIn K (.ref f) = true ∧ mg x = some (.ref f)
theorem fnUp {P : Program} {w : World} {K : PySem.W.Frag} {mg : Str → Option Value} {base : Heap} {CX : CXT} {j k : Nat} {f : Addr} {fd : FuncData} {ps : List Str} {sp : Sp} (F : FnOk P w K mg base CX j f fd ps sp) (le : j ≤ k) : FnOk P w K mg base CX k f fd ps sp :=
  ⟨F.len, fun A outer s H args us vs Q E hr e hb r h => F.run A outer s H args us vs Q E (hr.mono le) e hb r h⟩
theorem HasO.up {P : Program} {w : World} {K : PySem.W.Frag} {mg : Str → Option Value} {base : Heap} {x : Str} {ps : List Str} {sp : Sp} {j k : Nat} (h : HasO P w K mg base j x ps sp) (le : j ≤ k) : HasO P w K mg base k x ps sp := by
  obtain ⟨f, fd, G, b, kp, g⟩ := h.ex
  exact ⟨⟨f, fd, fnUp G le, b, kp, g⟩⟩
theorem HasE.up {P : Program} {w : World} {K : PySem.W.Frag} {mg : Str → Option Value} {base : Heap} {x : Str} {ps : List Str} {sp : Sp} {j k : Nat} (h : HasE P w K mg base j x ps sp) (le : j ≤ k) : HasE P w K mg base k x ps sp := by
  obtain ⟨f, fd, G, b, kp, g⟩ := h.ex
  exact ⟨⟨f, fd, fnUp G le, b, kp, g⟩⟩
/-! ### errors with one number -/
/-- where an own error's class stands, and its __init__ -/
structure ErrAt (P : Program) (K : PySem.W.Frag) (mg : Str → Option Value) (C fI : Addr) (fd : FuncData) (b : XB) (cn qual fld : Str) (st : Stmt) : Prop where
  ex : ∃ (cda cc : Addr) (oc : Value) (od an : Option Addr) (kV doc pm ct : Value) (osl : Array (Option Value)),
    fd = PySem.W.ksFn "__init__" qual (defArgs st) (defBody st) (defScope st) .none kV doc pm an (.ref cda) ct cc ∧
    K.lookup fI = some ⟨oc, od, .func fd, osl⟩ ∧ PySem.W.codeIn K (.ref cda) qual = true ∧ SupG P K C cda cc b
  init : PySem.W.findIn K (.ref C) "__init__" = some (some (.ref fI))
  fn : PySem.W.typeIn K (.ref fI) = some (.type "function")
  no : PySem.W.findIn K (.ref C) fld = some none
  at_ : mg cn = some (.ref C)
end Cr
namespace Cr
open PySem PySem.Spec PyProof.Rows L2 Evl
/-- the modules that are allowed: all, or those of a list -/
def MdAt (H : Hp) (m : V) : Option (List V) → Prop
  | none => m = .non
  | some xs => ∃ a, m = .ref a ∧ H a = some (.lst xs) ∧ xs.all flatV = true
theorem MdAt.ex {H H' : Hp} {m : V} {ms : Option (List V)} (e : Ex H H') (h : MdAt H m ms) : MdAt H' m ms := by
  cases ms with
  | none => exact h
  | some xs =>
    obtain ⟨a, h1, h2, h3⟩ := h
    exact ⟨a, h1, e _ _ h2, h3⟩
def modsOk (ms : Option (List V)) (d : PyData) : Bool :=
  match ms with
  | none => true
  | some xs => (modO d).toList.all fun x => inV (.str x) xs
def fitsIn (ms : Option (List V)) (d : PyData) (n : Int) : Bool := isBefore d n && modsOk ms d
end Cr
namespace Cr
open PySem PySem.Spec PyProof.Rows L2 Evl
def wrongAt (ms : Option (List V)) (main : Bool) (ds : List PyData) (i : Nat) : Bool := !fitsIn ms (ds.getD i .none) ((ds.length : Int) - i - 1) || (main && isExport (ds.getD i .none))
def firstBad (ms : Option (List V)) (main : Bool) (ds : List PyData) : Option Nat := (List.range ds.length).find? (wrongAt ms main ds)
def dueOf (ms : Option (List V)) (main : Bool) : PyData → Option Int
  | .list ds => if ds.length > 30 then some (-1) else (firstBad ms main ds).map fun i => (i : Int)
  | _ => some (-1)
def spCheck (C : Addr) : Sp := fun vs H Q E => ∃ v d main, vs = [v, .bl main] ∧ Dt H v d ∧ sm d = true ∧ (dueOf none main d = none → ∀ H', Ex H H' → Q .non H') ∧
  ∀ i, dueOf none main d = some i → ∀ dx H', H dx = none → Ex H H' → H' dx = some (.xd [("position", .int i)]) → E (.ref C) (some dx) H'
end Cr
namespace Cr
open PySem PySem.Spec PyProof.Rows L2 Evl
abbrev sBareW : Stmt := topS 12
theorem scBareW : FnScope ["word"] ["word"] (defScope sBareW) := ⟨rfl, rfl, rfl, by decide +kernel, rfl, by decide +kernel, by decide +kernel⟩
/-- check_program, as it is called: one value, or is_main by its name -/
structure HasC (P : Program) (w : World) (K : PySem.W.Frag) (mg : Str → Option Value) (base : Heap) (k : Nat) (C : Addr) : Prop where
  ex : ∃ f fd, FnOk P w K mg base (L2.CX P w) k f fd ["value", "is_main"] (spCheck C) ∧ (∃ ds, Vals [.bl false] ds ∧ Binds K fd ["value", "is_main"] ds) ∧ (∃ g, KBn K fd ["value", "is_main"] 1 ["is_main"] g (fun vs zs => vs ++ zs)) ∧
    PySem.W.keepIn K (.ref f) = true ∧ mg "check_program" = some (.ref f)
/-! ### bare values -/
def spBareW : Sp := fun vs H Q _ => ∃ x : Str, vs = [.str x] ∧ x.length ≤ 1000 ∧ ∀ H', Ex H H' → Q (.str x) H'
/-- steps stand at the places xs: tuples of the values vss -/
def Steps (H : Hp) : List V → List (List V) → Prop
  | [], [] => True
  | x :: xs, vs :: vss => (∃ t, x = .ref t ∧ H t = some (.tup vs)) ∧ Steps H xs vss
  | _, _ => False
/-- all tuples stand as they stood -/
def Tps (H H' : Hp) : Prop := ∀ a xs, H a = some (.tup xs) → H' a = some (.tup xs)
theorem Ex.tps {H H' : Hp} (e : Ex H H') : Tps H H' := fun a xs h => e a _ h
theorem Tps.refl (H : Hp) : Tps H H := fun _ _ h => h
theorem Tps.trans {H H1 H2 : Hp} (a : Tps H H1) (b : Tps H1 H2) : Tps H H2 := fun x o h => b x o (a x o h)
theorem Steps.tps {H H' : Hp} (e : Tps H H') : ∀ {xs : List V} {vss : List (List V)}, Steps H xs vss → Steps H' xs vss
  | [], [], _ => trivial
  | _ :: _, _ :: _, ⟨⟨t, h1, h2⟩, h⟩ => ⟨⟨t, h1, e _ _ h2⟩, Steps.tps e h⟩
theorem Steps.length {H : Hp} : ∀ {xs : List V} {vss : List (List V)}, Steps H xs vss → xs.length = vss.length
  | [], [], _ => rfl
  | _ :: _, _ :: _, ⟨_, h⟩ => by rw [List.length_cons, List.length_cons, Steps.length h]
theorem Steps.get {H : Hp} : ∀ {xs : List V} {vss : List (List V)} {i : Nat} {vs : List V}, Steps H xs vss → vss[i]? = some vs → ∃ t, xs[i]? = some (.ref t) ∧ H t = some (.tup vs)
  | [], [], _, _, _, h => by simp at h
  | _ :: _, _ :: _, 0, _, ⟨⟨t, h1, h2⟩, _⟩, h => by simp at h; subst h; exact ⟨t, by rw [h1]; rfl, h2⟩
  | _ :: _, _ :: _, i + 1, _, ⟨_, r⟩, h => by
    obtain ⟨t, a, b⟩ := Steps.get (i := i) r (by simpa using h)
    exact ⟨t, by simpa using a, b⟩
theorem Steps.take {H : Hp} {xs : List V} {vss : List (List V)} (h : Steps H xs vss) : ∀ {i : Nat}, Steps H (xs.take i) (vss.take i) := by
  intro i
  induction i generalizing xs vss with
  | zero => rw [List.take_zero, List.take_zero]; trivial
  | succ i ih =>
    match xs, vss, h with
    | [], [], _ => trivial
    | _ :: _, _ :: _, ⟨a, r⟩ => exact ⟨a, ih r⟩
/-- the data of such steps -/
def stepsD (vss : List (List V)) : List PyData := vss.map fun vs => .tuple (vs.map flD)
theorem Steps.dt {H : Hp} : ∀ {xs : List V} {vss : List (List V)}, Steps H xs vss → (∀ vs ∈ vss, vs.all flatV = true) → DtAll H xs (stepsD vss)
  | [], [], _, _ => .nil
  | _ :: _, vs :: vss, ⟨⟨t, h1, h2⟩, r⟩, hf => by
    subst h1
    exact .cons (.tup h2 (dtAll_flat (hf vs List.mem_cons_self))) (Steps.dt r fun v hv => hf v (List.mem_cons_of_mem _ hv))
theorem join_one (x : Str) : Txt.join ("" : Str) [x] = x := by
  rw [TL.join_eq]
  rfl
section
variable {P : Program} {w : World} {K : PySem.W.Frag} {mg : Str → Option Value} {base : Heap}
theorem ok_bareW {f : Addr} {fd : FuncData} {k : Nat} (F : Fun K "bare_word" "bare_word" sBareW f fd) : FnOk P w K mg base CX0 (k + 1) f fd ["word"] spBareW := by
  refine F.ok scBareW (fun vs H Q E h => by obtain ⟨_, rfl, _⟩ := h; rfl) (fun cdv A outer s H vs Q E hr h => ?_)
  obtain ⟨x, rfl, hx, q⟩ := h
  refine ⟨_, pss_one (ps_ret (pe_join pe_str (pe_lst (pa_cons (pv 0) pa_nil)))), ?_⟩
  refine ⟨⟨_, rfl⟩, _, rfl, by show 1 ≤ sizeLine; decide, fun l hl => ⟨_, l, [x], rfl, rfl, .inl (sq_of upd_same), ?_, ?_⟩⟩
  · have e0 : (("" : Str)).length = 0 := by decide +kernel
    simp [e0]
    omega
  · have g := q _ (Ex.new (o := .lst [.str x]) hl)
    rw [← join_one x] at g
    exact g
end
end Cr
/-! frames: what they look like -/
namespace Cr
open PySem PySem.Spec PyProof.Rows L2 Evl
/-! ### four variables -/
structure M4 where
  a : Int
  b : Int
  c : Int
  d : Int
def M4.kv (m : M4) : List (Key × V) := [(.inr "a", .int m.a), (.inr "b", .int m.b), (.inr "c", .int m.c), (.inr "d", .int m.d)]
def M4.get (m : M4) (x : Str) : Int := if x = "a" then m.a else if x = "b" then m.b else if x = "c" then m.c else m.d
def M4.set (m : M4) (x : Str) (v : Int) : M4 := if x = "a" then { m with a := v } else if x = "b" then { m with b := v } else if x = "c" then { m with c := v } else { m with d := v }
def M4.all (m : M4) (p : Int → Prop) : Prop := p m.a ∧ p m.b ∧ p m.c ∧ p m.d
def M4.dat (m : M4) : List (PyData × PyData) := [(.str "a", .int m.a), (.str "b", .int m.b), (.str "c", .int m.c), (.str "d", .int m.d)]
theorem M4.dt {H : Hp} (m : M4) : DtKv H m.kv m.dat := .cons (.int _) (.cons (.int _) (.cons (.int _) (.cons (.int _) .nil)))
/-! ### what else stands as it stood -/
def But (l : List Addr) (H H' : Hp) : Prop := ∀ a o, a ∉ l → H a = some o → H' a = some o
theorem But.refl {l : List Addr} (H : Hp) : But l H H := fun _ _ _ h => h
theorem But.trans {l : List Addr} {H H1 H2 : Hp} (a : But l H H1) (b : But l H1 H2) : But l H H2 := fun x o n h => b x o n (a x o n h)
theorem But.of {l : List Addr} {H H' : Hp} (e : Ex H H') : But l H H' := fun a o _ h => e a o h
theorem But.mono {l l' : List Addr} {H H' : Hp} (h : But l H H') (s : ∀ a ∈ l, a ∈ l') : But l' H H' := fun a o n z => h a o (fun y => n (s a y)) z
/-! ### the frame -/
/-- its addresses: its own dict, steps, memory, visited -/
structure FrA where
  dx : Addr
  aS : Addr
  aM : Addr
  aV : Addr
def fl (A : FrA) (pos : Nat) : List (Str × V) := [("steps", .ref A.aS), ("position", .int (pos : Int)), ("memory", .ref A.aM), ("visited", .ref A.aV)]
def own (p : Addr) (A : FrA) : List Addr := [p, A.aM, A.aV]
structure FrameAt (C : Addr) (H : Hp) (p : Addr) (A : FrA) (vss : List (List V)) (pos : Nat) (m : M4) (n : Nat) : Prop where
  ob : H p = some (.ins C A.dx (fl A pos))
  st : ∃ xs, H A.aS = some (.lst xs) ∧ Steps H xs vss
  me : H A.aM = some (.dK m.kv)
  vi : ∃ vis, H A.aV = some (.lst vis) ∧ vis.length = n
  sv : A.aS ≠ A.aV
section
variable {C : Addr} {H H' : Hp} {p : Addr} {A : FrA} {vss : List (List V)} {pos : Nat} {m : M4} {n : Nat}
theorem FrameAt.ex (h : FrameAt C H p A vss pos m n) (e : Ex H H') : FrameAt C H' p A vss pos m n := by
  obtain ⟨xs, h1, h2⟩ := h.st
  obtain ⟨vis, h3, h4⟩ := h.vi
  exact ⟨e _ _ h.ob, ⟨xs, e _ _ h1, h2.tps (Ex.tps e)⟩, e _ _ h.me, ⟨vis, e _ _ h3, h4⟩, h.sv⟩
/-- none of its own addresses is changed -/
theorem FrameAt.but {l : List Addr} (h : FrameAt C H p A vss pos m n) (e : But l H H') (t : Tps H H') (h1 : p ∉ l) (h2 : A.aS ∉ l) (h3 : A.aM ∉ l) (h4 : A.aV ∉ l) : FrameAt C H' p A vss pos m n := by
  obtain ⟨xs, g1, g2⟩ := h.st
  obtain ⟨vis, g3, g4⟩ := h.vi
  exact ⟨e _ _ h1 h.ob, ⟨xs, e _ _ h2 g1, g2.tps t⟩, e _ _ h3 h.me, ⟨vis, e _ _ h4 g3, g4⟩, h.sv⟩
theorem tps_own {l : List Addr} (e : But l H H') (hl : ∀ a ∈ l, ∀ xs, H a ≠ some (.tup xs)) : Tps H H' := fun a xs z => e a _ (fun y => hl a y xs z) z
theorem FrameAt.tps {H' : Hp} (h : FrameAt C H p A vss pos m n) (e : But (own p A) H H') : Tps H H' := tps_own e fun a ha xs z => by
  obtain ⟨vis', g3, g4⟩ := h.vi
  simp only [own, List.mem_cons, List.not_mem_nil, or_false] at ha
  rcases ha with rfl | rfl | rfl
  · rw [h.ob] at z; cases z
  · rw [h.me] at z; cases z
  · rw [g3] at z; cases z
end
/-! ### steps as data -/
def dV : PyData → V
  | .int i => .int i
  | .str x => .str x
  | .bool b => .bl b
  | _ => .non
end Cr
/-! frames: the methods -/
namespace Cr
open PySem PySem.Spec PyProof.Rows L2 Evl
/-- a method as it is called -/
structure HasM (P : Program) (w : World) (K : PySem.W.Frag) (mg : Str → Option Value) (base : Heap) (CX : CXT) (k : Nat) (C : Addr) (m : Str) (ps : List Str) (sp : Sp) : Prop where
  ex : ∃ f fd, FnOk P w K mg base CX k f fd ps sp ∧ Binds K fd ps [] ∧ Meth K C m f
theorem HasM.up {P : Program} {w : World} {K : PySem.W.Frag} {mg : Str → Option Value} {base : Heap} {CX : CXT} {C : Addr} {m : Str} {ps : List Str} {sp : Sp} {j k : Nat} (h : HasM P w K mg base CX j C m ps sp) (le : j ≤ k) : HasM P w K mg base CX k C m ps sp := by
  obtain ⟨f, fd, G, b, kp⟩ := h.ex
  exact ⟨⟨f, fd, fnUp G le, b, kp⟩⟩
section
variable {K : PySem.W.Frag} {σ : L2.St} {H : Hp} {te td ty : TE} {v : V}
theorem q_asgAny {i : Nat} {D : Ends} {tz : TS} (h : te σ H fun v H1 => tz D (σ.set i (some v)) H1) : tSeq (tAsg te (gName i)) tz D σ H := h
theorem q_dropAny {D : Ends} {tz : TS} (h : te σ H fun _ H1 => tz D σ H1) : tSeq (tDrop te) tz D σ H := h
theorem ev_fld {p C dx : Addr} {fs : List (Str × V)} {f : Str} (he : Ev te σ H (.ref p)) (h : H p = some (.ins C dx fs)) (cl : Cls K C) (n : NoAttr K C f) (l : fs.lookup f = some v) : Ev (tFld K te f) σ H v := fun H1 e Q q =>
  he H1 e _ fun H2 e2 => ⟨p, C, dx, fs, v, rfl, (e.trans e2) _ _ h, cl, n, l, q H2 e2⟩
end
end Cr
/-! frames: the making, the plain steps -/
/-! frames: run_plain -/
namespace Cr
open PySem PySem.Spec PyProof.Rows L2 Evl
/-- how far a plain step goes, and the memory behind it -/
def goes (us : List V) (m : M4) : Nat :=
  match us with
  | [.str z, .str x, .int i] => if z = "skip" ∧ m.get x > 0 then 1 + i.toNat else 1
  | _ => 1
end Cr
/-! data whose text is short: by bulk and depth -/
namespace Cr
open PySem PySem.Spec PyProof.Rows L2 Evl
/-- leaves of at most 80 signs, so much bulk, so deep -/
structure Sz (b m : Nat) (d : PyData) : Prop where
  sh : d.showable = true
  lf : d.leavesShort 80 = true
  bk : d.bulk ≤ b
  dp : d.depth ≤ m
structure SzA (b m : Nat) (ds : List PyData) : Prop where
  sh : PyData.showableAll ds = true
  lf : PyData.leavesShortAll 80 ds = true
  bk : PyData.bulkAll ds ≤ b
  dp : PyData.depthAll ds ≤ m
theorem Sz.fits {b m : Nat} {d : PyData} (h : Sz b m d) (hb : b ≤ 100000) (hm : m ≤ 50) : Fits d := by
  refine ⟨h.sh, Nat.le_trans h.dp hm, ?_⟩
  have z := PyData.shown_le_bulk 80 (by decide) d h.lf
  have y := h.bk
  rw [sizeLine_eq]
  omega
theorem Sz.mono {b b' m m' : Nat} {d : PyData} (h : Sz b m d) (hb : b ≤ b') (hm : m ≤ m') : Sz b' m' d := ⟨h.sh, h.lf, Nat.le_trans h.bk hb, Nat.le_trans h.dp hm⟩
theorem sz_bool {b m : Nat} {x : Bool} : Sz b m (.bool x) := ⟨rfl, rfl, Nat.zero_le _, Nat.zero_le _⟩
theorem sz_int {b m : Nat} {i : Int} (h : i.natAbs ≤ 10 ^ 70) : Sz b m (.int i) := by
  refine ⟨?_, ?_, Nat.zero_le _, Nat.zero_le _⟩
  · rw [PyData.showable]
    refine decide_eq_true ?_
    by_cases hz : i.natAbs = 0
    · rw [hz]; decide
    · have e : (10 : Nat) ^ 70 < 2 ^ 300 := by decide
      have := (Nat.log2_lt (k := 300) hz).mpr (by omega)
      omega
  · rw [PyData.leavesShort]
    refine decide_eq_true ?_
    have e := int_text_length_le10 (k := 71) (a := i) (by decide) (Nat.lt_of_le_of_lt h (by decide))
    show (Str.ofString (toString i)).length ≤ 80
    rw [PySem.ofString_length]
    omega
theorem sz_str {b m : Nat} {x : Str} (hb : x.length ≤ b) (hx : ∀ c ∈ x.cps.toList, c < 1000) : Sz b m (.str x) := by
  refine ⟨rfl, ?_, ?_, Nat.zero_le _⟩
  · rw [PyData.leavesShort]
    exact List.all_eq_true.mpr fun c hc => decide_eq_true (Nat.lt_trans (hx c hc) (by decide))
  · rw [PyData.bulk]
    exact hb
theorem sza_nil {b m : Nat} : SzA b m [] := ⟨rfl, rfl, Nat.zero_le _, Nat.zero_le _⟩
theorem sza_cons {b b' m : Nat} {d : PyData} {ds : List PyData} (h : Sz b m d) (r : SzA b' m ds) : SzA (b + 1 + b') m (d :: ds) := by
  refine ⟨by rw [PyData.showableAll, h.sh, r.sh]; rfl, by rw [PyData.leavesShortAll, h.lf, r.lf]; rfl, ?_, ?_⟩
  · have h1 := h.bk
    have h2 := r.bk
    rw [PyData.bulkAll]
    omega
  · rw [PyData.depthAll]
    exact Nat.max_le.mpr ⟨h.dp, r.dp⟩
theorem sz_list {b m : Nat} {ds : List PyData} (h : SzA b m ds) : Sz b (m + 1) (.list ds) := ⟨by rw [PyData.showable]; exact h.sh, by rw [PyData.leavesShort]; exact h.lf, by rw [PyData.bulk]; exact h.bk, by rw [PyData.depth]; exact Nat.succ_le_succ h.dp⟩
theorem sz_tuple {b m : Nat} {ds : List PyData} (h : SzA b m ds) : Sz b (m + 1) (.tuple ds) := ⟨by rw [PyData.showable]; exact h.sh, by rw [PyData.leavesShort]; exact h.lf, by rw [PyData.bulk]; exact h.bk, by rw [PyData.depth]; exact Nat.succ_le_succ h.dp⟩
theorem sza_all {b m : Nat} : ∀ {ds : List PyData}, (∀ d ∈ ds, Sz b m d) → SzA ((b + 1) * ds.length) m ds
  | [], _ => ⟨rfl, rfl, Nat.zero_le _, Nat.zero_le _⟩
  | d :: r, h => by
    have z := sza_cons (h d List.mem_cons_self) (sza_all fun x hx => h x (List.mem_cons_of_mem _ hx))
    refine ⟨z.sh, z.lf, ?_, z.dp⟩
    have y := z.bk
    rw [List.length_cons, Nat.mul_add, Nat.mul_one]
    omega
end Cr
/-! the law's own draws -/
namespace Cr
open PySem PySem.Spec PyProof.Rows L2 Evl
abbrev sPot : Stmt := topS 16
abbrev sDraw : Stmt := topS 17
abbrev sChoice : Stmt := topS 18
abbrev nPot : List Str := ["_law_script", "_law_index", "_law_cell"]
abbrev nDraw : List Str := ["_law_pot_here", "_law_bound", "_law_digit"]
abbrev nChoice : List Str := ["_law_pot_here", "_law_options"]
theorem scPot : FnScope nPot ["_law_script", "_law_index"] (defScope sPot) := ⟨rfl, rfl, rfl, by decide +kernel, rfl, by decide +kernel, by decide +kernel⟩
theorem scDraw : FnScope nDraw ["_law_pot_here", "_law_bound"] (defScope sDraw) := ⟨rfl, rfl, rfl, by decide +kernel, rfl, by decide +kernel, by decide +kernel⟩
theorem scChoice : FnScope nChoice ["_law_pot_here", "_law_options"] (defScope sChoice) := ⟨rfl, rfl, rfl, by decide +kernel, rfl, by decide +kernel, by decide +kernel⟩
theorem bMax : bootBuiltins "max" = some (.builtin "max") := by decide +kernel
theorem bMin : bootBuiltins "min" = some (.builtin "min") := by decide +kernel
theorem bAbs : bootBuiltins "abs" = some (.builtin "abs") := by decide +kernel
theorem bDivmod : bootBuiltins "divmod" = some (.builtin "divmod") := by decide +kernel
/-- the pot at p -/
def Pot (H : Hp) (p : Addr) : Prop := ∃ x y : Int, H p = some (.lst [.int x, .int y]) ∧ 0 ≤ x ∧ 0 ≤ y ∧ y < 2147483648
/-- drawn from: all but the pot stands as it stood -/
structure Drew (p : Addr) (H H' : Hp) : Prop where
  ex : Ex (wo p H) (wo p H')
  pot : Pot H' p
theorem Drew.trans {p : Addr} {H H1 H2 : Hp} (a : Drew p H H1) (b : Drew p H1 H2) : Drew p H H2 := ⟨a.ex.trans b.ex, b.pot⟩
theorem Drew.refl {p : Addr} {H : Hp} (h : Pot H p) : Drew p H H := ⟨Ex.refl _, h⟩
theorem Pot.ex {p : Addr} {H H' : Hp} (h : Pot H p) (e : Ex H H') : Pot H' p := by
  obtain ⟨x, y, h, r⟩ := h
  exact ⟨x, y, e _ _ h, r⟩
theorem Drew.of {p : Addr} {H H' : Hp} (h : Pot H p) (e : Ex H H') : Drew p H H' := ⟨Ex.wo e, h.ex e⟩
theorem Drew.at {p a : Addr} {H H' : Hp} {o : HO} (d : Drew p H H') (n : a ≠ p) (h : H a = some o) : H' a = some o :=
  (wo_some (d.ex a o (by rw [wo_ne n]; exact h))).2
theorem Drew.set {p : Addr} {H : Hp} {o : HO} {x y : Int} (e : o = .lst [.int x, .int y]) (hx : 0 ≤ x) (hy : 0 ≤ y) (hy2 : y < 2147483648) : Drew p H (upd H p o) :=
  ⟨wo_upd (Ex.refl _), x, y, by rw [upd_same, e], hx, hy, hy2⟩
theorem fresh_drew {p q : Addr} {H H' : Hp} (d : Drew p H H') (hp : Pot H p) (h : H' q = none) : H q = none := by
  cases e : H q with
  | none => rfl
  | some o =>
    by_cases n : q = p
    · subst n
      obtain ⟨x, y, z, _⟩ := d.pot
      rw [z] at h
      cases h
    · rw [d.at n e] at h
      cases h
def spPot (K : PySem.W.Frag) : Sp := fun vs H Q _ => ∃ (a : Addr) (ns : List Int) (i : Nat), vs = [.ref a, .int (i : Int)] ∧ SqL K H a (ns.map V.int) ∧ i < 100 ∧ ∀ p H', H p = none → Ex H H' → Pot H' p → Q (.ref p) H'
def spDraw : Sp := fun vs H Q _ => ∃ (p : Addr) (b : Int), vs = [.ref p, .int b] ∧ 0 < b ∧ b.natAbs.log2 < 9000 ∧ Pot H p ∧ ∀ d H', 0 ≤ d → d < b → Drew p H H' → Q (.int d) H'
def spChoice : Sp := fun vs H Q _ => ∃ (p : Addr), Pot H p ∧
  ((∃ (o : Addr) (xs : List V), vs = [.ref p, .ref o] ∧ o ≠ p ∧ H o = some (.lst xs) ∧ 0 < xs.length ∧ xs.length ≤ 1000 ∧ ∀ v H', v ∈ xs → Drew p H H' → Q v H') ∨
   ∃ z : Str, vs = [.ref p, .str z] ∧ 0 < z.length ∧ z.length ≤ 1000 ∧ ∀ c H', c ∈ z.cps.toList → Drew p H H' → Q (.str ⟨#[c]⟩) H')
section
variable {P : Program} {w : World} {K : PySem.W.Frag} {mg : Str → Option Value} {base : Heap}
theorem ok_pot {f : Addr} {fd : FuncData} {k : Nat} (F : Fun K "_law_pot" "_law_pot" sPot f fd) (B : Blt mg) : FnG P w K mg base CX0 (k + 1) f fd ["_law_script", "_law_index"] (spPot K) := by
  refine okG F scPot (fun vs H Q E h => by obtain ⟨_, _, _, rfl, _⟩ := h; rfl) (fun cdv A outer s H vs Q E hq hr h => ?_)
  obtain ⟨a, ns, i, rfl, hS, hi, q⟩ := h
  refine ⟨_, pss_cons (ps_set (i := 2) scPot.nd rfl (.inl rfl) pe_int)
    (pss_cut (ps_if (pt_cmpR op_lt (pv 1) (pe_callB call_len_seq (by rfl) B.len bLen (pa_cons (pv 0) pa_nil)) (nomark _))
      (pss_one (ps_set (i := 2) scPot.nd rfl (.inl rfl) (pe_callB call_abs (by rfl) B.abs bAbs (pa_cons (pe_ix ix_list (pv 0) (pv 1) (fun _ _ => rfl)) pa_nil)))) pss_nil)
    (pss_one (ps_ret (pe_lst (pa_cons (pe_callB (call_max2 rfl) (by rfl) B.max bMax (pa_cons pe_int (pa_cons (pe_op op_sub (pv 2) (pe_op op_pow pe_int pe_int)) pa_nil)))
      (pa_cons (pe_op op_add (pe_op op_mod (pe_op op_pow (pe_op op_add (pe_op op_add (pe_op op_mod (pv 2) pe_int) (pe_op op_mul pe_int (pv 1))) pe_int) pe_int) pe_int) pe_int) pa_nil)))))), ?_⟩
  refine q_asg ev_c fun H1 e1 => ?_
  refine q_cut (M := fun σ H2 => ∃ c : Int, 0 ≤ c ∧ σ = [some (.ref a), some (.int i), some (.int c)] ∧ Ex H H2) ?_ ?_
  · refine s_when (et_test (ev_op (ev_var rfl) (ev_cb (ea_cons (ev_var rfl) ea_nil) (rc_lenL (ex_l e1 hS))) rv_I0)) (fun hb H2 e2 => ?_) (fun hb H2 e2 => ⟨0, Int.le_refl 0, rfl, e1.trans e2⟩)
    have hlt := of_decide_eq_true hb
    rw [List.length_map] at hlt
    have hlt2 : i < ns.length := by omega
    refine s_asg (v := .int (if ns[i] < 0 then -ns[i] else ns[i])) (ev_cb (ea_cons (ev_op (ev_var rfl) (ev_var rfl) (rv_ixL (ex_l (e1.trans e2) hS) (atI_nat (j := i) (v := .int ns[i]) (by rw [List.getElem?_map, List.getElem?_eq_getElem hlt2]; rfl)))) ea_nil) (fun H3 _ Q q => ⟨_, rfl, q H3 (Ex.refl H3)⟩)) fun H3 e3 => ?_
    exact ⟨_, by split <;> omega, rfl, (e1.trans e2).trans e3⟩
  · rintro σ H2 ⟨c, hc, rfl, e2⟩
    have hm : 0 ≤ c % 2147483629 ∧ c % 2147483629 < 2147483629 := ⟨Int.emod_nonneg _ (by decide), Int.emod_lt_of_pos _ (by decide)⟩
    have hz : (c % 2147483629 + 1013 * (i : Int) + 7).natAbs < 2 ^ 64 := by omega
    have hx : ∀ y : Int, 0 ≤ y % 2147483587 ∧ y % 2147483587 < 2147483587 := fun y => ⟨Int.emod_nonneg _ (by decide), Int.emod_lt_of_pos _ (by decide)⟩
    have hx1 := hx ((c % 2147483629 + 1013 * (i : Int) + 7) ^ (3 : Int).toNat)
    refine s_retL (el_lst (ea_cons (ev_cb (ea_cons ev_c (ea_cons (ev_op (ev_var rfl) (ev_op ev_c ev_c (rv_I ⟨by decide, by decide, by decide⟩)) rv_I0) ea_nil)) (fun H3 _ Q q => ⟨_, _, rfl, q H3 (Ex.refl H3)⟩))
      (ea_cons (ev_op (ev_op (ev_op (ev_op (ev_op (ev_op (ev_var rfl) ev_c (rv_I (by show (0 : Int) < 2147483629; decide))) (ev_op ev_c (ev_var rfl) (rv_I (.inl ⟨by decide, by decide⟩))) rv_I0) ev_c rv_I0) ev_c (rv_I ⟨by decide, by decide, hz⟩)) ev_c (rv_I (by show (0 : Int) < 2147483587; decide))) ev_c rv_I0) ea_nil)) (by show 2 ≤ 100000; decide)) fun p H3 hp e3 h3 => ?_
    refine q p H3 (fresh_back e2 hp) (e2.trans e3) ⟨_, _, h3, ?_, ?_, ?_⟩
    · split <;> omega
    · omega
    · omega
end
end Cr
namespace Cr
open PySem PySem.Spec PyProof.Rows L2 Evl
/-- the law's helpers as they are called: the promise, how it binds, where it stands -/
structure Has (P : Program) (w : World) (K : PySem.W.Frag) (mg : Str → Option Value) (base : Heap) (k : Nat) (x : Str) (ps : List Str) (sp : Sp) : Prop where
  ex : ∃ f fd, FnG P w K mg base CX0 k f fd ps sp ∧ Binds K fd ps [] ∧ PySem.W.keepIn K (.ref f) = true ∧ mg x = some (.ref f)
theorem divp_small {i j : Int} (h : 0 < j) (hj : j.natAbs.log2 < 9000) : CDivP i j := by
  refine ⟨h, ?_⟩
  show (decide ((if j == 0 then 0 else j.natAbs.log2 / 30 + 1) > 300) && decide ((if i == 0 then 0 else i.natAbs.log2 / 30 + 1) > (if j == 0 then 0 else j.natAbs.log2 / 30 + 1) + 150)) = false
  rw [if_neg (show ¬ (j == 0) = true by simpa using (show j ≠ 0 by omega)), decide_eq_false (show ¬ j.natAbs.log2 / 30 + 1 > 300 by omega), Bool.false_and]
section
variable {P : Program} {w : World} {K : PySem.W.Frag} {mg : Str → Option Value} {base : Heap}
theorem ok_draw {f : Addr} {fd : FuncData} {k : Nat} (F : Fun K "_law_draw" "_law_draw" sDraw f fd) (B : Blt mg) : FnG P w K mg base CX0 (k + 1) f fd ["_law_pot_here", "_law_bound"] spDraw := by
  refine okG F scDraw (fun vs H Q E h => by obtain ⟨_, _, rfl, _⟩ := h; rfl) (fun cdv A outer s H vs Q E hq hr h => ?_)
  obtain ⟨p, b, rfl, hb, hb2, ⟨x, y, hp, hx, hy, hy2⟩, q⟩ := h
  refine ⟨_, pss_cons (ps_if (pt_cmpR op_gt (pe_ix ix_list (pv 0) pe_int (fun _ _ => rfl)) pe_int (nomark _))
      (pss_cons (ps_asg (pe_callB call_divmodW (by rfl) B.divmod bDivmod (pa_cons (pe_ix ix_list (pv 0) pe_int (fun _ _ => rfl)) (pa_cons (pv 1) pa_nil)))
          (pg_tup rfl (pgs_cons (pg_sub (pv 0) pe_int set_list) (pgs_cons (pg_name (i := 2) scDraw.nd rfl (.inl rfl)) pgs_nil))))
        (pss_one (ps_ret (pv 2)))) pss_nil)
    (pss_cons (ps_asg (pe_op op_mod (pe_op op_add (pe_op op_mul (pe_ix ix_list (pv 0) pe_int (fun _ _ => rfl)) pe_int) pe_int) pe_int) (pg_sub (pv 0) pe_int set_list))
    (pss_one (ps_ret (pe_op op_mod (pe_op op_fdiv (pe_op op_mod (pe_op op_mul (pe_ix ix_list (pv 0) pe_int (fun _ _ => rfl)) (pe_ix ix_list (pv 0) pe_int (fun _ _ => rfl))) pe_int) pe_int) (pv 1))))), ?_⟩
  have i0 : atI [V.int x, V.int y] 0 = some (.int x) := atI_nat (j := 0) rfl
  have i1 : ∀ z : Int, atI [V.int x, V.int z] 1 = some (.int z) := fun z => atI_nat (j := 1) rfl
  refine q_when (et_test (ev_op (ev_op (ev_var rfl) ev_c (rv_ixL (sq_of hp) i0)) ev_c rv_I0)) (fun hc H1 e1 => ?_) (fun hc H1 e1 => ?_)
  · -- the digits
    have hx1 : 0 < x := of_decide_eq_true hc
    have hp1 := e1 _ _ hp
    refine ev_op (ev_var rfl) ev_c (rv_ixL (K := K) (sq_of hp1) i0) H1 (Ex.refl H1) _ fun H2 e2 => ?_
    refine ⟨.int b, rfl, x, b, rfl, divp_small hb hb2, fun t ht => ?_⟩
    have tp : p ≠ t := ne_of_none (e2 _ _ hp1) ht
    refine ⟨t, [.int (x / b), .int (x % b)], rfl, .inl (.inl upd_same), rfl, .int (x / b), [.int (x % b)], rfl, .ref p, rfl, p, [.int x, .int y], 0, 0, rfl, rfl, ?_, rfl, .int (x % b), [], rfl, rfl, .int (x % b), rfl, ?_⟩
    · rw [upd_ne tp]
      exact e2 _ _ hp1
    · refine q (x % b) _ (Int.emod_nonneg _ (by omega)) (Int.emod_lt_of_pos _ hb) ?_
      refine Drew.trans (H1 := upd H2 t (.tup [.int (x / b), .int (x % b)])) (Drew.of ⟨x, y, hp, hx, hy, hy2⟩ ((e1.trans e2).trans (Ex.new ht))) ?_
      exact Drew.set rfl (Int.ediv_nonneg hx (by omega)) hy hy2
  · have hp1 := e1 _ _ hp
    have m1 : 0 ≤ (y * 48271 + 10037) % 2147483587 ∧ (y * 48271 + 10037) % 2147483587 < 2147483587 := ⟨Int.emod_nonneg _ (by decide), Int.emod_lt_of_pos _ (by decide)⟩
    generalize ez : (y * 48271 + 10037) % 2147483587 = z at m1
    refine ev_op (z := .int ((y * 48271 + 10037) % 2147483587)) (ev_op (ev_op (ev_op (ev_var rfl) ev_c (rv_ixL (K := K) (sq_of hp1) (i1 y))) ev_c (rv_I (.inl ⟨by omega, by omega⟩))) ev_c rv_I0) ev_c (rv_I (by show (0 : Int) < 2147483587; decide)) H1 (Ex.refl H1) _ fun H2 e2 => ?_
    rw [ez]
    refine ⟨.ref p, rfl, p, [.int x, .int y], 1, 1, rfl, rfl, e2 _ _ hp1, rfl, ?_⟩
    have dr : Drew p H (upd H2 p (.lst [.int x, .int z])) := Drew.trans (H1 := H2) (Drew.of ⟨x, y, hp, hx, hy, hy2⟩ (e1.trans e2)) (Drew.set rfl hx m1.1 (by omega))
    have hp3 : (upd H2 p (.lst [.int x, .int z])) p = some (.lst [.int x, .int z]) := upd_same
    have ix : Ev (tOp (rIxL K) (tVar 0) (tC (.int 1))) [some (.ref p), some (.int b), none] (upd H2 p (.lst [.int x, .int z])) (.int z) := ev_op (ev_var rfl) ev_c (rv_ixL (sq_of hp3) (i1 z))
    refine s_ret (ev_op (ev_op (ev_op (ev_op ix ix (rv_I (.inl ⟨by omega, by omega⟩))) ev_c (rv_I (by show (0 : Int) < 2147483563; decide))) ev_c (rv_I ⟨by decide, by decide⟩)) (ev_var rfl) (rv_I (C := fun _ j => 0 < j) hb)) fun H3 e3 => ?_
    exact q _ H3 (Int.emod_nonneg _ (by omega)) (Int.emod_lt_of_pos _ hb) (dr.trans (Drew.of dr.pot e3))
theorem ok_choice {f : Addr} {fd : FuncData} {k : Nat} (F : Fun K "_law_choice" "_law_choice" sChoice f fd) (B : Blt mg) (D : Has P w K mg base k "_law_draw" ["_law_pot_here", "_law_bound"] spDraw) :
    FnG P w K mg base CX0 (k + 1) f fd ["_law_pot_here", "_law_options"] spChoice := by
  obtain ⟨fD, fdD, GD, bD, kD, gD⟩ := D.ex
  refine okG F scChoice (fun vs H Q E h => by obtain ⟨_, _, h⟩ := h; rcases h with ⟨_, _, rfl, _⟩ | ⟨_, rfl, _⟩ <;> rfl) (fun cdv A outer s H vs Q E hq hr h => ?_)
  obtain ⟨p, pot, h⟩ := h
  refine ⟨_, pss_one (ps_ret (pe_ix ix_seq (pv 1) (callG GD hq hr (by rfl) gD kD bD .nil pass0 (pa_cons (pv 0) (pa_cons (pe_callB call_len (by rfl) B.len bLen (pa_cons (pv 1) pa_nil)) pa_nil))) (fun _ _ => rfl))), ?_⟩
  have small : ∀ n : Nat, 0 < n → n ≤ 1000 → ((n : Int)).natAbs.log2 < 9000 := fun n h1 h2 => by
    have : (n : Int).natAbs = n := Int.natAbs_natCast n
    rw [this]
    have := (Nat.log2_lt (k := 10) (by omega)).mpr (show n < 2 ^ 10 by omega)
    omega
  rcases h with ⟨o, xs, rfl, ne, ho, h1, h2, q⟩ | ⟨z, rfl, h1, h2, q⟩
  · refine ⟨.ref o, rfl, .ref p, rfl, .ref o, rfl, .ref o, xs.length, rfl, .inl ⟨xs, sq_of ho, rfl⟩, p, (xs.length : Int), rfl, by omega, small _ h1 h2, pot, fun d H1 d0 d1 dr => ?_⟩
    obtain ⟨j, rfl⟩ := Int.eq_ofNat_of_zero_le d0
    have hj : j < xs.length := by omega
    exact .inl ⟨o, xs, (j : Int), xs[j], rfl, rfl, sq_of (dr.at ne ho), atI_nat (List.getElem?_eq_getElem hj), q _ H1 (List.getElem_mem hj) dr⟩
  · refine ⟨.str z, rfl, .ref p, rfl, .str z, rfl, .str z, z.length, rfl, ⟨sz_of (by omega), rfl⟩, p, (z.length : Int), rfl, by omega, small _ h1 h2, pot, fun d H1 d0 d1 dr => ?_⟩
    obtain ⟨j, rfl⟩ := Int.eq_ofNat_of_zero_le d0
    have hj : j < z.cps.toList.length := by
      have : z.cps.toList.length = z.length := by simp [Str.length]
      omega
    exact .inr (.inr ⟨z, (j : Int), z.cps.toList[j], rfl, rfl, sz_of (by omega), atI_nat (List.getElem?_eq_getElem hj), q _ H1 (List.getElem_mem hj) dr⟩)
end
end Cr
/-! what the top has left, gathered -/
namespace Cr
open PySem PySem.Spec PyProof.Rows L2 Evl
/-- a def of the top, as the head tells it -/
def DefAt (K : PySem.W.Frag) (x : Str) (st : Stmt) : Prop := ∃ (f : Addr) (od an : Option Addr) (sl : Array (Option Value)) (oc kV dc pm cd ct : Value),
  PySem.W.nsIn K mainGlobals x = some (some (.ref f)) ∧ K.lookup f = some ⟨oc, od, .func (PySem.W.fnOf x x (defArgs st) (defBody st) (defScope st) .none kV dc pm an cd ct), sl⟩ ∧ PySem.W.codeIn K cd x = true ∧ PySem.W.keepIn K (.ref f) = true
theorem defAt {K : PySem.W.Frag} {x : Str} {st : Stmt} {f : Addr} {od an : Option Addr} {sl : Array (Option Value)} {oc kV dc pm cd ct : Value} (a : PySem.W.nsIn K mainGlobals x = some (some (.ref f)))
    (l : K.lookup f = some ⟨oc, od, .func (PySem.W.fnOf x x (defArgs st) (defBody st) (defScope st) .none kV dc pm an cd ct), sl⟩) (c : PySem.W.codeIn K cd x = true) (k : PySem.W.keepIn K (.ref f) = true) : DefAt K x st :=
  ⟨f, od, an, sl, oc, kV, dc, pm, cd, ct, a, l, c, k⟩
/-- the binding of so many parameters -/
def BindsAll (x : Str) (st : Stmt) (ps : List Str) : Prop := ∀ (kV doc pm : Value) (an : Option Addr) (cdv ct : Value) (us : List Value), us.length = ps.length → bindArgs (PySem.W.fnOf x x (defArgs st) (defBody st) (defScope st) .none kV doc pm an cdv ct) ⟨us, []⟩ = pure (ps.zip us)
theorem has_mk {P : Program} {w : World} {K : PySem.W.Frag} {mg : Str → Option Value} {base h : Heap} {x : Str} {st : Stmt} {ps : List Str} {sp : Sp} {k : Nat} (X : K.In h) (G : h.Ns mainGlobals mg) (D : DefAt K x st) (hb : BindsAll x st ps)
    (ok : ∀ f fd, Fun K x x st f fd → FnG P w K mg base CX0 k f fd ps sp) : Has P w K mg base k x ps sp := by
  obtain ⟨f, od, an, sl, oc, kV, dc, pm, cd, ct, a, l, c, kp⟩ := D
  have F := fun_mk (st := st) l c kp
  exact ⟨⟨f, _, ok f _ F, F.binds hb, kp, PySem.W.mg_of X G a⟩⟩
theorem hasO_mk {P : Program} {w : World} {K : PySem.W.Frag} {mg : Str → Option Value} {base h : Heap} {x : Str} {st : Stmt} {ps : List Str} {sp : Sp} {k : Nat} (X : K.In h) (G : h.Ns mainGlobals mg) (D : DefAt K x st) (hb : BindsAll x st ps)
    (ok : ∀ f fd, Fun K x x st f fd → FnOk P w K mg base CX0 k f fd ps sp) : HasO P w K mg base k x ps sp := by
  obtain ⟨f, od, an, sl, oc, kV, dc, pm, cd, ct, a, l, c, kp⟩ := D
  have F := fun_mk (st := st) l c kp
  exact ⟨⟨f, _, ok f _ F, F.binds hb, kp, PySem.W.mg_of X G a⟩⟩
theorem hasE_mk {P : Program} {w : World} {K : PySem.W.Frag} {mg : Str → Option Value} {base h : Heap} {x : Str} {st : Stmt} {ps : List Str} {sp : Sp} {k : Nat} (X : K.In h) (G : h.Ns mainGlobals mg) (D : DefAt K x st) (hb : BindsAll x st ps)
    (ok : ∀ f fd, Fun K x x st f fd → FnOk P w K mg base (L2.CX P w) k f fd ps sp) : HasE P w K mg base k x ps sp := by
  obtain ⟨f, od, an, sl, oc, kV, dc, pm, cd, ct, a, l, c, kp⟩ := D
  have F := fun_mk (st := st) l c kp
  exact ⟨⟨f, _, ok f _ F, F.binds hb, kp, PySem.W.mg_of X G a⟩⟩
theorem Has.up {P : Program} {w : World} {K : PySem.W.Frag} {mg : Str → Option Value} {base : Heap} {x : Str} {ps : List Str} {sp : Sp} {j k : Nat} (h : Has P w K mg base j x ps sp) (le : j ≤ k) : Has P w K mg base k x ps sp := by
  obtain ⟨f, fd, G, b, kp, g⟩ := h.ex
  exact ⟨⟨f, fd, G.up le, b, kp, g⟩⟩
theorem HasC.up {P : Program} {w : World} {K : PySem.W.Frag} {mg : Str → Option Value} {base : Heap} {C : Addr} {j k : Nat} (h : HasC P w K mg base j C) (le : j ≤ k) : HasC P w K mg base k C := by
  obtain ⟨f, fd, G, b, b2, kp, g⟩ := h.ex
  exact ⟨⟨f, fd, fnUp G le, b, b2, kp, g⟩⟩
/-! ### tuples and the table of the top -/
/-! ### methods -/
def MethAt (K : PySem.W.Frag) (C : Addr) (m qual : Str) (st : Stmt) : Prop := ∃ (f : Addr) (od an : Option Addr) (sl : Array (Option Value)) (oc kV dc pm cd ct : Value),
  PySem.W.findIn K (.ref C) m = some (some (.ref f)) ∧ PySem.W.isFn K (.ref f) = true ∧ K.lookup f = some ⟨oc, od, .func (PySem.W.fnOf m qual (defArgs st) (defBody st) (defScope st) .none kV dc pm an cd ct), sl⟩ ∧ PySem.W.codeIn K cd qual = true ∧ PySem.W.keepIn K (.ref f) = true ∧ PySem.W.typeIn K (.ref f) = some (.type "function")
theorem methAt {K : PySem.W.Frag} {C : Addr} {m qual : Str} {st : Stmt} {f : Addr} {od an : Option Addr} {sl : Array (Option Value)} {oc kV dc pm cd ct : Value} (a : PySem.W.findIn K (.ref C) m = some (some (.ref f))) (i : PySem.W.isFn K (.ref f) = true)
    (l : K.lookup f = some ⟨oc, od, .func (PySem.W.fnOf m qual (defArgs st) (defBody st) (defScope st) .none kV dc pm an cd ct), sl⟩) (c : PySem.W.codeIn K cd qual = true) (k : PySem.W.keepIn K (.ref f) = true) (t : PySem.W.typeIn K (.ref f) = some (.type "function")) : MethAt K C m qual st :=
  ⟨f, od, an, sl, oc, kV, dc, pm, cd, ct, a, i, l, c, k, t⟩
def BindsM (m qual : Str) (st : Stmt) (ps : List Str) : Prop := ∀ (kV doc pm : Value) (an : Option Addr) (cdv ct : Value) (us : List Value), us.length = ps.length → bindArgs (PySem.W.fnOf m qual (defArgs st) (defBody st) (defScope st) .none kV doc pm an cdv ct) ⟨us, []⟩ = pure (ps.zip us)
theorem hasM_mk {P : Program} {w : World} {K : PySem.W.Frag} {mg : Str → Option Value} {base : Heap} {CX : CXT} {C : Addr} {m qual : Str} {st : Stmt} {ps : List Str} {sp : Sp} {k : Nat} (D : MethAt K C m qual st) (hb : BindsM m qual st ps)
    (ok : ∀ f fd, Fun K m qual st f fd → FnOk P w K mg base CX k f fd ps sp) : HasM P w K mg base CX k C m ps sp := by
  obtain ⟨f, od, an, sl, oc, kV, dc, pm, cd, ct, a, i, l, c, kp, t⟩ := D
  have F := fun_mk (st := st) l c kp
  exact ⟨⟨f, _, ok f _ F, F.binds hb, a, i, kp⟩⟩
/-! ### own errors -/
def ErrK (P : Program) (K : PySem.W.Frag) (C : Addr) (b : XB) (qual fld : Str) (st : Stmt) : Prop := ∃ (fI cda cc : Addr) (oc : Value) (od an : Option Addr) (kV doc pm ct : Value) (osl : Array (Option Value)),
  K.lookup fI = some ⟨oc, od, .func (PySem.W.ksFn "__init__" qual (defArgs st) (defBody st) (defScope st) .none kV doc pm an (.ref cda) ct cc), osl⟩ ∧ PySem.W.codeIn K (.ref cda) qual = true ∧ SupG P K C cda cc b ∧
  PySem.W.findIn K (.ref C) "__init__" = some (some (.ref fI)) ∧ PySem.W.typeIn K (.ref fI) = some (.type "function") ∧ PySem.W.findIn K (.ref C) fld = some none
theorem errK {P : Program} {K : PySem.W.Frag} {C fI cda cc : Addr} {b : XB} {qual fld : Str} {st : Stmt} {oc : Value} {od an : Option Addr} {kV doc pm ct : Value} {osl : Array (Option Value)} (i : PySem.W.findIn K (.ref C) "__init__" = some (some (.ref fI)))
    (l : K.lookup fI = some ⟨oc, od, .func (PySem.W.ksFn "__init__" qual (defArgs st) (defBody st) (defScope st) .none kV doc pm an (.ref cda) ct cc), osl⟩) (c : PySem.W.codeIn K (.ref cda) qual = true) (s : SupG P K C cda cc b)
    (t : PySem.W.typeIn K (.ref fI) = some (.type "function")) (p : PySem.W.findIn K (.ref C) fld = some none) : ErrK P K C b qual fld st := ⟨fI, cda, cc, oc, od, an, kV, doc, pm, ct, osl, l, c, s, i, t, p⟩
theorem oexG_mk {K : PySem.W.Frag} {C : Addr} {b : XB} {nm q : Str} {N : Addr} {bs bm : List Value} {sn : List Str} {sub : List Value} {ab : Bool} {col : Option Bool} {dd : Option Addr} {k0 k1 k2 k3 k5 : Option Value} (ok : b.Ok)
    (l : K.lookup C = some (excClassObj nm q C N bs bm true sn sub ab col dd k0 k1 k2 k3 k5 b.nw)) (m : downTo b.tl bm = true) (sa : PySem.W.findIn K (.ref C) "__setattr__" = some (some (.builtin "object.__setattr__")))
    (ex : PySem.W.subIn K (.ref C) (.type "BaseException") = some true) (ty : PySem.W.typeIn K (.ref C) = some (.type "type")) (kC : PySem.W.keepIn K (.ref C) = true) : OexG K C b :=
  ⟨ok, ⟨nm, q, N, bs, bm, sn, sub, ab, col, dd, k0, k1, k2, k3, k5, l, m⟩, sa, ex, ty, kC⟩
theorem supG_mk {P : Program} {K : PySem.W.Frag} {C cda cc : Addr} {b : XB} {ccl : Value} {cdd : Option Addr} {cvs : Array Value} {ccs : Array (Option Value)} {file : Str} {tf : Tok} {cl : Value} {cld : Option Addr} {csl : Array (Option Value)} (o : OexG K C b)
    (a : K.lookup cda = some ⟨ccl, cdd, .fields cvs, ccs⟩) (f2 : cvs[2]? = some (.str file tf)) (c : ((P.main.file : Str) == file) = true) (d : K.lookup cc = some ⟨cl, cld, .cell (some (.ref C)), csl⟩) (e : PySem.W.mroIn K C (.ref C) = some true)
    (f : PySem.W.nsIn K cStatics "thirdparty.any" = some none) (g : PySem.W.ks_superIn K C C "__init__" = some (some (.builtin b.ini))) (h : PySem.W.subIn K (.ref C) (.type b.B) = some true) (i : (P.main.scope.names.lookup ("super" : Str)).isSome = false) : SupG P K C cda cc b :=
  ⟨o, ⟨ccl, cdd, cvs, ccs, file, tf, a, f2, c⟩, ⟨cl, cld, csl, d⟩, e, f, g, h, i⟩
theorem errAt_of {P : Program} {K : PySem.W.Frag} {mg : Str → Option Value} {h : Heap} {C : Addr} {b : XB} {cn qual fld : Str} {st : Stmt} (X : K.In h) (G : h.Ns mainGlobals mg) (c : PySem.W.nsIn K mainGlobals cn = some (some (.ref C))) (e : ErrK P K C b qual fld st) : ∃ fI fd, ErrAt P K mg C fI fd b cn qual fld st := by
  obtain ⟨fI, cda, cc, oc, od, an, kV, doc, pm, ct, osl, l, cd, s, i, t, p⟩ := e
  exact ⟨fI, _, ⟨cda, cc, oc, od, an, kV, doc, pm, ct, osl, rfl, l, cd, s⟩, i, t, p, PySem.W.mg_of X G c⟩
end Cr
/-! o.m(k = v): a method called by keywords alone -/
/-! frames: pass_step -/
/-! the law's own: texts, names, numbers, steps -/
namespace Cr
open PySem PySem.Spec PyProof.Rows L2 Evl
/-! ### texts of letters -/
theorem join_cps : ∀ ws : List Str, (Txt.join ("" : Str) ws).cps.toList = ws.flatMap fun w => w.cps.toList := by
  have e0 : (("" : Str)).cps.toList = [] := by decide +kernel
  have h : ∀ ws : List Str, (Str.join ("" : Str) ws).cps.toList = ws.flatMap fun w => w.cps.toList := by
    intro ws
    induction ws with
    | nil => rfl
    | cons x r ih =>
      cases r with
      | nil => simp [Str.join]
      | cons y r =>
        rw [show Str.join ("" : Str) (x :: y :: r) = x ++ "" ++ Str.join "" (y :: r) from rfl, Str.cps_append, Str.cps_append, Array.toList_append, Array.toList_append, ih, e0, List.append_nil]
        simp
  intro ws
  rw [TL.join_eq]
  exact h ws
theorem len_toList (x : Str) : x.cps.toList.length = x.length := by simp [Str.length]
theorem name_of {x : Str} {cs : List Nat} (e : x.cps.toList = cs) (h1 : 1 ≤ cs.length) (h2 : cs.length ≤ 8) (h : ∀ c ∈ cs, isLow c = true) : isNameS x = true := by
  have l := len_toList x
  rw [e] at l
  unfold isNameS
  rw [e, decide_eq_true (show (1 : Int) ≤ x.length by omega), decide_eq_true (show (x.length : Int) ≤ 8 by omega), List.all_eq_true.mpr h]
  rfl
def isOne (w : Str) : Prop := ∃ c, w = ⟨#[c]⟩ ∧ isLow c = true
theorem join_ones : ∀ {ws : List Str}, (∀ w ∈ ws, isOne w) → ∃ cs : List Nat, (ws.flatMap fun w => w.cps.toList) = cs ∧ cs.length = ws.length ∧ ∀ c ∈ cs, isLow c = true
  | [], _ => ⟨[], rfl, rfl, by simp⟩
  | w :: r, h => by
    obtain ⟨c, rfl, hc⟩ := h w (List.mem_cons_self ..)
    obtain ⟨cs, e, l, ha⟩ := join_ones fun w hw => h w (List.mem_cons_of_mem _ hw)
    refine ⟨c :: cs, ?_, by simp [l], ?_⟩
    · rw [List.flatMap_cons, e]; rfl
    · intro d hd
      rcases List.mem_cons.mp hd with rfl | hd
      · exact hc
      · exact ha d hd
abbrev abc : Str := "abcdefghijklmnopqrstuvwxyz"
theorem abc_get (i : Nat) (h : i < 26) : abc.cps.toList[i]? = some (97 + i) := by
  have : ∀ i < 26, abc.cps.toList[i]? = some (97 + i) := by decide +kernel
  exact this i h
theorem low_of {i : Nat} (h : i < 26) : isLow (97 + i) = true := by
  unfold isLow
  rw [decide_eq_true (show 97 ≤ 97 + i by omega), decide_eq_true (show 97 + i ≤ 122 by omega)]; rfl
/-- pigeons -/
theorem pigeon : ∀ {ws us : List Str}, ws.Nodup → (∀ w ∈ ws, w ∈ us) → ws.length ≤ us.length
  | [], _, _, _ => Nat.zero_le _
  | w :: ws, us, nd, h => by
    have hw := h w (List.mem_cons_self ..)
    rw [List.nodup_cons] at nd
    have ih := pigeon (us := us.erase w) nd.2 fun x hx => (List.mem_erase_of_ne (fun e : x = w => nd.1 (by rw [← e]; exact hx))).mpr (h x (List.mem_cons_of_mem _ hx))
    rw [List.length_erase_of_mem hw] at ih
    have : 0 < us.length := List.length_pos_of_mem hw
    rw [List.length_cons]
    omega
def spare (i : Nat) : Str := ⟨#[97 + i / 26, 97 + i % 26, 113]⟩
theorem spare_name (i : Nat) (h : i < 676) : isNameS (spare i) = true := by
  refine name_of (x := spare i) (cs := [97 + i / 26, 97 + i % 26, 113]) rfl (by simp) (by simp) fun c hc => ?_
  simp only [List.mem_cons, List.not_mem_nil, or_false] at hc
  rcases hc with rfl | rfl | rfl
  · exact low_of (by omega)
  · exact low_of (by omega)
  · rfl
theorem inV_mem {z : Str} {us : List Str} : inV (.str z) (us.map V.str) = true ↔ z ∈ us := by
  rw [inV_strs, List.any_eq_true]
  constructor
  · rintro ⟨x, hx, e⟩
    rw [beq_iff_eq] at e
    exact e ▸ hx
  · intro h
    exact ⟨z, h, beq_self_eq_true z⟩
theorem Drew.mut {p D : Addr} {H H' : Hp} {o : HO} (d : Drew p H H') (hD : H D = none) (n : D ≠ p) : Drew p H (upd H' D o) := by
  refine ⟨fun a u h => ?_, ?_⟩
  · have hn := (wo_some h).1
    have hD' : a ≠ D := ne_of_none (wo_some h).2 hD
    have q := d.ex a u h
    rw [wo_ne hn] at q ⊢
    rw [upd_ne hD']
    exact q
  · obtain ⟨x, y, z, r⟩ := d.pot
    exact ⟨x, y, by rw [upd_ne n.symm]; exact z, r⟩
theorem Drew.neq {p q : Addr} {H H' : Hp} (d : Drew p H H') (h : H' q = none) : q ≠ p := fun e => by
  obtain ⟨x, y, z, _⟩ := d.pot
  rw [← e, h] at z
  cases z
theorem Drew.new {p q : Addr} {H H' : Hp} {o : HO} (d : Drew p H H') (h : H' q = none) : Drew p H (upd H' q o) := d.trans (Drew.of d.pot (Ex.new h))
theorem Drew.tps {p : Addr} {H H' : Hp} (d : Drew p H H') (hp : Pot H p) : Tps H H' := fun a xs h => d.at (fun e => by
  obtain ⟨x, y, z, _⟩ := hp
  rw [e, z] at h
  cases h) h
end Cr
/-! words of the law: _law_word, _law_words, as fourteen laws draw them -/
namespace Cr
open PySem PySem.Spec PyProof.Rows L2 Evl
abbrev sWord1 : Stmt := topS 19
abbrev sWords1 : Stmt := topS 20
abbrev nWord1 : List Str := ["_law_pot_here", "_law_used", "_law_letters", "_law_size", "_law_word_here", "_law_spare", "_law_turn", "_law_at", "_law_one"]
abbrev nWords1 : List Str := ["_law_pot_here", "_law_number", "_law_found", "_law_turn"]
theorem scWord1 : FnScope nWord1 ["_law_pot_here", "_law_used"] (defScope sWord1) := ⟨rfl, rfl, rfl, by decide +kernel, rfl, by decide +kernel, by decide +kernel⟩
theorem scWords1 : FnScope nWords1 ["_law_pot_here", "_law_number"] (defScope sWords1) := ⟨rfl, rfl, rfl, by decide +kernel, rfl, by decide +kernel, by decide +kernel⟩
theorem spare_inj {i j : Nat} (h : spare i = spare j) : i = j := by
  have e : (spare i).cps.toList = (spare j).cps.toList := by rw [h]
  have e' : [97 + i / 26, 97 + i % 26, 113] = [97 + j / 26, 97 + j % 26, 113] := e
  injection e' with e1 e2
  injection e2 with e2 _
  omega
theorem spare_nd2 (n : Nat) : ((List.range n).map spare).Nodup := List.Pairwise.map spare (fun _ _ h z => h (spare_inj z)) List.nodup_range
theorem spare_free2 {us : List Str} (h : us.length ≤ 600) : ∃ i, i < 676 ∧ spare i ∉ us := by
  refine Classical.byContradiction fun n => ?_
  have all : ∀ w ∈ (List.range 676).map spare, w ∈ us := fun w hw => by
    obtain ⟨i, hi, rfl⟩ := List.mem_map.mp hw
    exact Classical.byContradiction fun z => n ⟨i, List.mem_range.mp hi, z⟩
  have := pigeon (spare_nd2 676) all
  rw [List.length_map, List.length_range] at this
  omega
def spWord : Sp := fun vs H Q _ => ∃ (p u : Addr) (us : List Str), vs = [.ref p, .ref u] ∧ Pot H p ∧ u ≠ p ∧ H u = some (.lst (us.map V.str)) ∧ us.length ≤ 600 ∧ ∀ x H', isNameS x = true → x ∉ us → Drew p H H' → Q (.str x) H'
def spWords : Sp := fun vs H Q _ => ∃ (p : Addr) (n : Nat), vs = [.ref p, .int (n : Int)] ∧ Pot H p ∧ n ≤ 600 ∧
  ∀ (l : Addr) (xs : List Str) (H' : Hp), H l = none → H' l = some (.lst (xs.map V.str)) → xs.length = n → xs.Nodup → (∀ x ∈ xs, isNameS x = true) → Drew p H H' → Q (.ref l) H'
abbrev ten : List Str := ["module", "need", "try", "fail", "act", "thread", "retry", "unload", "ready", "a"]
theorem ten_name : ∀ x ∈ ten, isNameS x = true := by decide +kernel
theorem ten_get (j : Nat) (h : j < 10) : ∃ x, (ten.map V.str)[j]? = some (.str x) ∧ isNameS x = true := by
  have hl : j < ten.length := h
  exact ⟨ten[j], by rw [List.getElem?_map, List.getElem?_eq_getElem hl]; rfl, ten_name _ (List.getElem_mem hl)⟩
section
variable {P : Program} {w : World} {K : PySem.W.Frag} {mg : Str → Option Value} {base : Heap}
theorem ok_word1 {f : Addr} {fd : FuncData} {k : Nat} (F : Fun K "_law_word" "_law_word" sWord1 f fd) (B : Blt mg) (D : Has P w K mg base k "_law_draw" ["_law_pot_here", "_law_bound"] spDraw) :
    FnG P w K mg base CX0 (k + 1) f fd ["_law_pot_here", "_law_used"] spWord := by
  obtain ⟨fD, fdD, GD, bD, kD, gD⟩ := D.ex
  refine okG F scWord1 (fun vs H Q E h => by obtain ⟨_, _, _, rfl, _⟩ := h; rfl) (fun cdv A outer s H vs Q E hq hr h => ?_)
  obtain ⟨p, u, us, rfl, pot, un, hu, hl, q⟩ := h
  refine ⟨_, pss_cons (ps_set (i := 2) scWord1.nd rfl (.inr rfl) pe_str)
    (pss_cons (ps_set (i := 3) scWord1.nd rfl (.inl rfl) (pe_ix ix_list (pe_lst (pa_cons pe_int (pa_cons pe_int (pa_cons pe_int (pa_cons pe_int (pa_cons (pe_op op_add pe_int (callG GD hq hr (by rfl) gD kD bD .nil pass0 (pa_cons (pv 0) (pa_cons pe_int pa_nil)))) pa_nil)))))) (callG GD hq hr (by rfl) gD kD bD .nil pass0 (pa_cons (pv 0) (pa_cons pe_int pa_nil))) (fun _ _ => rfl)))
    (pss_cons (ps_set (i := 4) scWord1.nd rfl (.inl rfl) (pe_join pe_str (pe_lc (own := [("_law_turn", 6)]) (g := gName 6) (tt := tYes) rfl scWord1.nd (pi_range1 (by rfl) B.range (pa_cons (pv 3) pa_nil)) (blkOk_by (own := [("_law_turn", 6)]) (N := nWord1) (sc := defScope sWord1) (by decide +kernel))
        (fun _ _ _ _ _ => pg_name (i := 6) scWord1.nd rfl (Or.inl rfl)) (fun _ _ _ _ _ => pts_nil) (fun _ _ _ _ _ => pe_ix ix_str (pv 2) (callG GD hq hr (by rfl) gD kD bD .nil pass0 (pa_cons (pv 0) (pa_cons pe_int pa_nil))) (fun _ _ => rfl)))))
    (pss_cut (ps_if (pt_cmpR op_eq (callG GD hq hr (by rfl) gD kD bD .nil pass0 (pa_cons (pv 0) (pa_cons pe_int pa_nil))) pe_int (nomark _))
      (pss_one (ps_set (i := 4) scWord1.nd rfl (.inl rfl) (pe_ix ix_list (pe_lst (pa_cons pe_str (pa_cons pe_str (pa_cons pe_str (pa_cons pe_str (pa_cons pe_str (pa_cons pe_str (pa_cons pe_str (pa_cons pe_str (pa_cons pe_str (pa_cons pe_str pa_nil))))))))))) (callG GD hq hr (by rfl) gD kD bD .nil pass0 (pa_cons (pv 0) (pa_cons pe_int pa_nil))) (fun _ _ => rfl)))) pss_nil)
    (pss_cons (ps_if (pt_cmpR op_in_seq (pv 4) (pv 1) (by rfl))
      (pss_cons (ps_setLc (i := 5) (own := [("_law_at", 7)]) (g := gName 7) (tt := tYes) rfl scWord1.nd rfl rfl (sw_true rfl rfl rfl (by decide +kernel)) (pi_range1 (by rfl) B.range (pa_cons pe_int pa_nil)) (blkOk_by (own := [("_law_at", 7)]) (N := nWord1) (sc := defScope sWord1) (by decide +kernel))
        (fun _ _ _ _ _ => pg_name (i := 7) scWord1.nd rfl (Or.inl rfl)) (fun _ _ _ _ _ => pts_nil)
        (fun _ _ _ _ _ => pe_op op_add_str (pe_op op_add_str (pe_ix ix_str (pv 2) (pe_op op_fdiv (pv 7) pe_int) (fun _ _ => rfl)) (pe_ix ix_str (pv 2) (pe_op op_mod (pv 7) pe_int) (fun _ _ => rfl))) pe_str))
      (pss_one (ps_ret (pe_ix ix_list (pe_lc (own := [("_law_one", 8)]) (g := gName 8) (tt := tTest (tOp (rIn K true) (tVar 8) (tVar 1))) rfl scWord1.nd (pi_list (pv 5)) (blkOk_by (own := [("_law_one", 8)]) (N := nWord1) (sc := defScope sWord1) (by decide +kernel))
        (fun _ _ _ _ _ => pg_name (i := 8) scWord1.nd rfl (Or.inl rfl)) (fun _ _ _ _ _ => by exact pts_one (pt_cmpR op_notIn_seq (pv 8) (pv 1) (by rfl))) (fun _ _ _ _ _ => pv 8)) pe_int (fun _ _ => rfl))))) pss_nil)
    (pss_one (ps_ret (pv 4))))))), ?_⟩
  refine q_asg ev_c fun H0 e0 => ?_
  have r0 : Drew p H H0 := Drew.of pot e0
  refine q_asgAny ⟨.ref p, rfl, p, 8, rfl, by decide, by decide +kernel, r0.pot, fun c1 H1 a1 b1 r1 => ⟨1, c1, rfl, rfl, by show 5 ≤ sizeLine; decide, fun o ho => ?_⟩⟩
  have r01 := r0.trans r1
  have on : o ≠ p := r01.neq ho
  have r1' : Drew p H (upd H1 o (.lst [.int 1, .int 1, .int 2, .int 8, .int (1 + c1)])) := r01.new ho
  refine ⟨.ref p, rfl, p, 5, rfl, by decide, by decide +kernel, r1'.pot, fun d2 H2 a2 b2 r2 => ?_⟩
  obtain ⟨sz, hsz, s1, s8⟩ : ∃ sz : Nat, atI [V.int 1, V.int 1, V.int 2, V.int 8, V.int (1 + c1)] d2 = some (.int (sz : Int)) ∧ 1 ≤ sz ∧ sz ≤ 8 := by
    obtain ⟨j, rfl⟩ := Int.eq_ofNat_of_zero_le a2
    have hj : j = 0 ∨ j = 1 ∨ j = 2 ∨ j = 3 ∨ j = 4 := by omega
    rcases hj with rfl | rfl | rfl | rfl | rfl
    · exact ⟨1, atI_nat rfl, by omega, by omega⟩
    · exact ⟨1, atI_nat rfl, by omega, by omega⟩
    · exact ⟨2, atI_nat rfl, by omega, by omega⟩
    · exact ⟨8, atI_nat rfl, by omega, by omega⟩
    · refine ⟨(1 + c1).toNat, atI_nat (v := V.int (1 + c1)) rfl |>.trans ?_, by omega, by omega⟩
      congr 2; omega
  have r12 := r1'.trans r2
  refine ⟨o, _, d2, .int sz, rfl, rfl, sq_of (r2.at on upd_same), hsz, ?_⟩
  refine q_asgAny ⟨⟨"", rfl⟩, .int (sz : Int), rfl, sz, rfl, by omega, by omega, fun Dl hD => ?_⟩
  have Dn : Dl ≠ p := r12.neq hD
  have HD : H Dl = none := fresh_drew r12 pot hD
  refine lc_range (lo := 0) (n := (sz : Int).toNat) (fun i H3 => ∃ ws : List Str, H3 Dl = some (.lst (ws.map V.str)) ∧ ws.length = i ∧ (∀ w ∈ ws, isOne w) ∧ Drew p H H3)
    ⟨[], upd_same, rfl, by simp, r12.mut HD Dn⟩ (fun i H3 hi hP => ?_) (fun H3 hP => ?_)
  · obtain ⟨ws, hw, hlw, hone, dr⟩ := hP
    refine ⟨rfl, .str abc, rfl, .ref p, rfl, p, 26, rfl, by decide, by decide +kernel, dr.pot, fun d H4 da db dr4 => ?_⟩
    obtain ⟨j, rfl⟩ := Int.eq_ofNat_of_zero_le da
    have hj : j < 26 := by omega
    refine ⟨abc, (j : Int), 97 + j, rfl, rfl, by decide +kernel, atI_nat (abc_get j hj), ws.map V.str, dr4.at Dn hw, sz_lt (by rw [List.length_map]; omega), ws ++ [⟨#[97 + j]⟩], ?_, by simp [hlw], ?_, (dr.trans dr4).mut HD Dn⟩
    · rw [upd_same, List.map_append]; rfl
    · intro w hw'
      rcases List.mem_append.mp hw' with z | z
      · exact hone w z
      · rw [List.mem_singleton.mp z]
        exact ⟨97 + j, rfl, low_of hj⟩
  obtain ⟨ws, hw, hlw, hone, dr⟩ := hP
  obtain ⟨cs, ecs, lcs, hcs⟩ := join_ones hone
  have nm : isNameS (Txt.join "" ws) = true := name_of ((join_cps ws).trans ecs) (by omega) (by omega) hcs
  have lone : ∀ {ws : List Str}, (∀ w ∈ ws, isOne w) → (ws.map (·.length)).sum = ws.length := by
    intro ws
    induction ws with
    | nil => intro _; rfl
    | cons x r ih =>
      intro h
      obtain ⟨c, rfl, _⟩ := h _ (List.mem_cons_self ..)
      rw [List.map_cons, List.sum_cons, ih fun w hw => h w (List.mem_cons_of_mem _ hw), List.length_cons]
      show 1 + r.length = r.length + 1
      omega
  refine ⟨"", Dl, ws, rfl, rfl, .inl (sq_of hw), ?_, ?_⟩
  · have e0 : (("" : Str)).length = 0 := by decide +kernel
    rw [lone hone, e0]
    omega
  generalize hx : Txt.join ("" : Str) ws = x at nm
  refine q_cut (M := fun σ H' => ∃ x : Str, σ = [some (.ref p), some (.ref u), some (.str abc), some (.int (sz : Int)), some (.str x), none, none, none, none] ∧ isNameS x = true ∧ Drew p H H') ?_ ?_
  · refine ⟨.ref p, rfl, p, 12, rfl, by decide, by decide +kernel, dr.pot, fun c H5 c0 c12 r5 => ⟨rfl, _, rfl, ?_⟩⟩
    have r05 := dr.trans r5
    by_cases hc : V.int c = V.int 0
    · rw [decide_eq_true hc]
      refine ⟨by show 10 ≤ sizeLine; decide, fun o2 ho2 => ?_⟩
      have r06 : Drew p H (upd H5 o2 (.lst (ten.map V.str))) := r05.new ho2
      refine ⟨.ref p, rfl, p, 10, rfl, by decide, by decide +kernel, r06.pot, fun d H6 d0 d10 r6 => ?_⟩
      obtain ⟨j, rfl⟩ := Int.eq_ofNat_of_zero_le d0
      obtain ⟨y, hy, ny⟩ := ten_get j (by omega)
      exact ⟨o2, _, (j : Int), .str y, rfl, rfl, sq_of (r6.at (r05.neq ho2) upd_same), atI_nat hy, y, rfl, ny, r06.trans r6⟩
    · rw [decide_eq_false hc]
      exact ⟨x, rfl, nm, r05⟩
  rintro σ H4 ⟨x, rfl, nm, dr⟩
  have hu4 := dr.at un hu
  refine q_when (σ := [some (.ref p), some (.ref u), some (.str abc), some (.int (sz : Int)), some (.str x), none, none, none, none]) (et_test (ev_op (ev_var rfl) (ev_var rfl) (rv_isL (sq_of hu4) rfl (flat_strs _)))) (fun hb H5 e5 => ?_) (fun hb H5 e5 => s_ret (ev_var rfl) fun H6 e6 => q x H6 nm (fun z => by rw [inV_mem.mpr z] at hb; cases hb) (dr.trans (Drew.of dr.pot (e5.trans e6))))
  -- the spare ones
  have lc1 := el_lcW (wi := iRng1 (tCons (tC (.int 676)) tNil)) (g := gName 7) (tt := tYes) (te := tOp _ (tOp _ (tOp rIxS (tVar 2) (tOp (rI CDiv fun i j => .int (i / j)) (tVar 7) (tC (.int 26)))) (tOp rIxS (tVar 2) (tOp (rI (fun _ j => 0 < j) fun i j => .int (i % j)) (tVar 7) (tC (.int 26))))) (tC (.str "q"))) (vs := [7])
    (σ := [some (.ref p), some (.ref u), some (.str abc), some (.int (sz : Int)), some (.str x), none, none, none, none]) (H := H5) (n := 676) (Y := YFn fun i => .int (0 + i)) (fun _ => true) (fun i => .str (spare i)) (by decide)
    (fun H6 e6 R r => ⟨676, rfl, by decide, by decide, r H6 _ _ walk_range (fun _ _ _ z => z) (Ex.refl H6) trivial⟩)
    (fun i y H6 H7 e6 hi hy => by
      obtain ⟨rfl, rfl⟩ := hy
      refine ⟨Ex.refl _, [some (.ref p), some (.ref u), some (.str abc), some (.int (sz : Int)), some (.str x), none, none, some (.int (0 + i)), none], rfl, fun R r => r, fun H8 _ Q q => q H8 (Ex.refl H8), fun _ => ?_⟩
      have e0 : (0 : Int) + (i : Int) = (i : Int) := Int.zero_add _
      rw [e0]
      have ed : ((i : Int) / 26) = ((i / 26 : Nat) : Int) := by omega
      have em : ((i : Int) % 26) = ((i % 26 : Nat) : Int) := by omega
      have i1 : i / 26 < 26 := by omega
      have i2 : i % 26 < 26 := by omega
      refine ev_op (r := fun x y H Q => ∃ i j, x = .str i ∧ y = .str j ∧ i.length + j.length ≤ sizeLine ∧ Q (.str (i ++ j)) H) (x := .str (⟨#[97 + i / 26]⟩ ++ ⟨#[97 + i % 26]⟩))
        (ev_op (r := fun x y H Q => ∃ i j, x = .str i ∧ y = .str j ∧ i.length + j.length ≤ sizeLine ∧ Q (.str (i ++ j)) H)
          (ev_op (ev_var rfl) (ev_op (ev_var rfl) ev_c (rv_I ⟨by decide, by decide⟩)) (rv_ixS (by decide +kernel) (by rw [ed]; exact atI_nat (abc_get _ i1))))
          (ev_op (ev_var rfl) (ev_op (ev_var rfl) ev_c (rv_I (C := fun _ j => 0 < j) (by decide))) (rv_ixS (by decide +kernel) (by rw [em]; exact atI_nat (abc_get _ i2))))
          (rv_val fun H8 _ Q q => ⟨_, _, rfl, rfl, by show 2 ≤ sizeLine; decide, q⟩)) ev_c (rv_val fun H8 _ Q q => ⟨_, _, rfl, rfl, by show 3 ≤ sizeLine; decide, q⟩))
  have eg1 : given 676 (fun _ => true) (fun i => V.str (spare i)) = ((List.range 676).map spare).map V.str := by
    rw [given_all, List.map_map]; rfl
  rw [eg1] at lc1
  refine q_asgL lc1 fun L H6 hL e6 h6 => ?_
  have hu6 := e6 _ _ (e5 _ _ hu4)
  have lc2 := el_lcW (wi := iList K (tVar 5)) (g := gName 8) (tt := tTest (tOp (rIn K true) (tVar 8) (tVar 1))) (te := tVar 8) (vs := [8])
    (σ := [some (.ref p), some (.ref u), some (.str abc), some (.int (sz : Int)), some (.str x), some (.ref L), none, none, none]) (H := H6) (n := 676) (Y := YAt (((List.range 676).map spare).map V.str)) (fun i => !inV (.str (spare i)) (us.map V.str)) (fun i => .str (spare i)) (by decide)
    (fun H7 e7 R r => ⟨.ref L, rfl, L, rfl, ⟨_, sq_of (e7 _ _ h6)⟩, r H7 _ _ (by have z := walk_list (K := K) (a := L) (xs := ((List.range 676).map spare).map V.str); rw [List.length_map, List.length_map, List.length_range] at z; exact z) (fun _ _ e z => ex_l e z) (Ex.refl H7) (sq_of (e7 _ _ h6))⟩)
    (fun i y H7 H8 e7 hi hy => by
      obtain ⟨rfl, hy⟩ := hy
      have ey : y = .str (spare i) := by
        rw [List.getElem?_map, List.getElem?_map, List.getElem?_range hi] at hy
        exact (Option.some.inj hy).symm
      subst ey
      exact ⟨Ex.refl _, [some (.ref p), some (.ref u), some (.str abc), some (.int (sz : Int)), some (.str x), some (.ref L), none, none, some (.str (spare i))], rfl, fun R r => r, et_test (ev_op (ev_var rfl) (ev_var rfl) (rv_niL (sq_of (e7 _ _ hu6)) rfl (flat_strs _))), fun _ => ev_var rfl⟩)
  obtain ⟨i0, hi0, fi0⟩ := spare_free2 hl
  have mem : V.str (spare i0) ∈ given 676 (fun i => !inV (.str (spare i)) (us.map V.str)) (fun i => .str (spare i)) := by
    unfold given
    refine List.mem_map.mpr ⟨i0, List.mem_filter.mpr ⟨List.mem_range.mpr (by omega), ?_⟩, rfl⟩
    rw [Bool.not_eq_true']
    exact Bool.eq_false_iff.mpr fun z => fi0 (inV_mem.mp z)
  cases eg : given 676 (fun i => !inV (.str (spare i)) (us.map V.str)) (fun i => V.str (spare i)) with
  | nil => rw [eg] at mem; cases mem
  | cons y r =>
    have hy : y ∈ given 676 (fun i => !inV (.str (spare i)) (us.map V.str)) (fun i => V.str (spare i)) := by rw [eg]; exact List.mem_cons_self ..
    unfold given at hy
    obtain ⟨i1, h1, rfl⟩ := List.mem_map.mp hy
    have hi1 : i1 < 676 := List.mem_range.mp (List.mem_filter.mp h1).1
    rw [eg] at lc2
    refine s_ret (ev_opL1 lc2 (fun _ _ => ev_c) fun p2 H7 hp2 _ => rv_ixL (sq_of hp2) (atI_nat (j := 0) rfl)) fun H7 e7 => ?_
    have ni : spare i1 ∉ us := fun z => by
      have y := (List.mem_filter.mp h1).2
      rw [inV_mem.mpr z] at y
      cases y
    exact q _ H7 (spare_name i1 (by omega)) ni (dr.trans (Drew.of dr.pot ((e5.trans e6).trans e7)))
theorem ok_words1 {f : Addr} {fd : FuncData} {k : Nat} (F : Fun K "_law_words" "_law_words" sWords1 f fd) (B : Blt mg) (N : Has P w K mg base k "_law_word" ["_law_pot_here", "_law_used"] spWord) :
    FnG P w K mg base CX0 (k + 1) f fd ["_law_pot_here", "_law_number"] spWords := by
  obtain ⟨fN, fdN, GN, bN, kN, gN⟩ := N.ex
  refine okG F scWords1 (fun vs H Q E h => by obtain ⟨_, _, rfl, _⟩ := h; rfl) (fun cdv A outer s H vs Q E hq hr h => ?_)
  obtain ⟨p, n, rfl, pot, hn, q⟩ := h
  refine ⟨_, pss_cons (ps_set (i := 2) scWords1.nd rfl (.inl rfl) (pe_lst pa_nil))
    (pss_cons (ps_for PassesOwn.never rfl (pi_range1 (by rfl) B.range (pa_cons (pv 1) pa_nil)) (pg_name (i := 3) scWords1.nd rfl (.inl rfl))
      (pss_one (ps_expr (pe_bm PySem.F.plainAttrs_list PySem.F.slot_list_append PySem.F.type_list_append mt_append (pv 2) (pa_cons (callG GN hq hr (by rfl) gN kN bN .nil pass0 (pa_cons (pv 0) (pa_cons (pv 2) pa_nil))) pa_nil)))))
    (pss_one (ps_ret (pv 2)))), ?_⟩
  refine ⟨Nat.zero_le _, fun l hl => ?_⟩
  have d0 : Drew p H (upd H l (.lst [])) := Drew.of pot (Ex.new hl)
  have ln : l ≠ p := (Drew.refl pot).neq hl
  refine ⟨.int n, rfl, n, rfl, by omega, by omega, for_range (lo := 0) (n := (n : Int).toNat) (fun i σ H' => ∃ y3 xs, σ = [some (.ref p), some (.int n), some (.ref l), y3] ∧ H' l = some (.lst ((xs : List Str).map V.str)) ∧ xs.length = i ∧ xs.Nodup ∧ (∀ x ∈ xs, isNameS x = true) ∧ Drew p H H')
    ⟨none, [], rfl, upd_same, rfl, List.Pairwise.nil, by simp, d0⟩ (fun i σ H1 hi hP => ?_) (fun σ H1 hP => ?_)⟩
  · obtain ⟨y3, xs, rfl, h1, lx, nd, hx, dr⟩ := hP
    refine ⟨.ref l, rfl, .inl ⟨rfl, _, sq_of h1⟩, .ref p, rfl, .ref l, rfl, p, l, xs, rfl, dr.pot, ln, h1, by omega, fun x H2 nx fx dr2 => ?_⟩
    refine ⟨l, _, .str x, rfl, rfl, dr2.at ln h1, sz_lt (by rw [List.length_map]; omega), _, xs ++ [x], rfl, ?_, by simp [lx], List.nodup_append.mpr ⟨nd, List.pairwise_singleton _ _, fun a ha b hb e => fx (by rw [List.mem_singleton.mp hb] at e; exact e ▸ ha)⟩, ?_, (dr.trans dr2).mut hl ln⟩
    · rw [upd_same, List.map_append]; rfl
    · intro y hy
      rcases List.mem_append.mp hy with z | z
      · exact hx y z
      · rw [List.mem_singleton.mp z]; exact nx
  · obtain ⟨y3, xs, rfl, h1, lx, nd, hx, dr⟩ := hP
    exact ⟨.ref l, rfl, q l xs H1 hl h1 (by omega) nd hx dr⟩
end
end Cr
/-! errors: copied -/
namespace Cr
open PySem PySem.Spec PyProof.Rows L2 Evl
abbrev sCopied : Stmt := topS 2
abbrev nCopied : List Str := ["value", "item", "key"]
theorem scCopied : FnScope nCopied ["value"] (defScope sCopied) := ⟨rfl, rfl, rfl, by decide +kernel, rfl, by decide +kernel, by decide +kernel⟩
/-! ### what is new -/
def dif (H H' : Hp) : Hp := fun a => match H a with | none => H' a | some _ => none
theorem dif_at {H H' : Hp} {a : Addr} {o : HO} (h : H a = none) (h' : H' a = some o) : dif H H' a = some o := by unfold dif; rw [h]; exact h'
theorem dif_get {H H' : Hp} {a : Addr} {o : HO} (h : dif H H' a = some o) : H a = none ∧ H' a = some o := by
  unfold dif at h
  cases e : H a with
  | none => rw [e] at h; exact ⟨rfl, h⟩
  | some u => rw [e] at h; cases h
/-! ### what can be copied -/
def flatD : PyData → Bool
  | .none | .bool _ | .int _ | .str _ => true
  | _ => false
def kdis : List (PyData × PyData) → Bool
  | [] => true
  | e :: r => r.all (fun p => !PyData.eqv e.1 p.1) && kdis r
theorem kdis_nodup {H : Hp} : ∀ {kvs : List (Key × V)} {es : List (PyData × PyData)}, DtKv H kvs es → kdis es = true → (kvs.map (·.1)).Nodup
  | _, _, .nil, _ => List.nodup_nil
  | _, _, .cons (k := k) (kvs := kvs) (es := es) h t, z => by
    rw [kdis, Bool.and_eq_true] at z
    rw [List.map_cons]
    refine List.nodup_cons.mpr ⟨fun m => ?_, kdis_nodup t z.2⟩
    have mem : ∀ {kvs : List (Key × V)} {es : List (PyData × PyData)}, DtKv H kvs es → k ∈ kvs.map (·.1) → ∃ p ∈ es, p.1 = kD k := by
      intro kvs es h
      induction kvs generalizing es with
      | nil => intro m; exact nomatch m
      | cons kv kvs ih =>
        intro m
        cases h with
        | cons h1 h2 =>
          rcases List.mem_cons.mp m with e | e
          · exact ⟨_, List.mem_cons_self, congrArg kD e.symm⟩
          · obtain ⟨p, hp, he⟩ := ih h2 e
            exact ⟨p, List.mem_cons_of_mem _ hp, he⟩
    obtain ⟨p, hp, he⟩ := mem t m
    have y := List.all_eq_true.mp z.1 p hp
    rw [he] at y
    cases k with
    | inl i => simp [kD, PyData.eqv] at y
    | inr x => simp [kD, PyData.eqv] at y
mutual
def cpy : PyData → Bool
  | .none | .bool _ | .int _ | .str _ => true
  | .list xs | .tuple xs => decide (xs.length ≤ 1000) && cpyAll xs
  | .dict es => decide (es.length ≤ 1000) && es.all (fun p => flatD p.2) && kdis es
def cpyAll : List PyData → Bool
  | [] => true
  | x :: xs => cpy x && cpyAll xs
end
mutual
def dpt : PyData → Nat
  | .none | .bool _ | .int _ | .str _ => 0
  | .list xs | .tuple xs => dptAll xs + 1
  | .dict _ => 1
def dptAll : List PyData → Nat
  | [] => 0
  | x :: xs => max (dpt x) (dptAll xs)
end
theorem cpyAll_get : ∀ {ds : List PyData} {i : Nat} {d : PyData}, cpyAll ds = true → ds[i]? = some d → cpy d = true
  | x :: xs, 0, d, h, e => by
    simp at e; subst e
    rw [cpyAll, Bool.and_eq_true] at h
    exact h.1
  | x :: xs, i + 1, d, h, e => by
    rw [cpyAll, Bool.and_eq_true] at h
    exact cpyAll_get (i := i) h.2 (by simpa using e)
theorem dptAll_get : ∀ {ds : List PyData} {i : Nat} {d : PyData}, ds[i]? = some d → dpt d ≤ dptAll ds
  | x :: xs, 0, d, e => by
    simp at e; subst e
    rw [dptAll]
    exact Nat.le_max_left _ _
  | x :: xs, i + 1, d, e => by
    have := dptAll_get (i := i) (ds := xs) (by simpa using e)
    rw [dptAll]
    exact Nat.le_trans this (Nat.le_max_right _ _)
theorem flat_any {H H' : Hp} {v : V} {d : PyData} (h : Dt H v d) (f : flatD d = true) : Dt H' v d := by
  cases h with
  | non => exact .non
  | bl b => exact .bl b
  | int i => exact .int i
  | str x => exact .str x
  | _ => exact nomatch f
theorem flat_eq {H H' : Hp} {v v' : V} {d : PyData} (h : Dt H v d) (h' : Dt H' v' d) (f : flatD d = true) : v' = v := by
  cases h with
  | non => cases h'; rfl
  | bl b => cases h'; rfl
  | int i => cases h'; rfl
  | str x => cases h'; rfl
  | _ => exact nomatch f
theorem flatKv {H H' : Hp} : ∀ {kvs : List (Key × V)} {es : List (PyData × PyData)}, DtKv H kvs es → es.all (fun p => flatD p.2) = true → DtKv H' kvs es
  | _, _, .nil, _ => .nil
  | _, _, .cons h t, f => by
    rw [List.all_cons, Bool.and_eq_true] at f
    exact .cons (flat_any h f.1) (flatKv t f.2)
theorem kv_get {H : Hp} : ∀ {kvs : List (Key × V)} {es : List (PyData × PyData)} {i : Nat} {k : Key} {v : V}, DtKv H kvs es → kvs[i]? = some (k, v) → ∃ e, es[i]? = some e ∧ Dt H v e.2
  | _, _, 0, _, _, .cons h _, e => by
    simp at e
    obtain ⟨rfl, rfl⟩ := e
    exact ⟨_, rfl, h⟩
  | _, _, i + 1, _, _, .cons _ t, e => by
    obtain ⟨x, h1, h2⟩ := kv_get (i := i) t (by simpa using e)
    exact ⟨x, by simpa using h1, h2⟩
theorem valV_at {k : Key} {v : V} : ∀ {kvs : List (Key × V)} {i : Nat}, (kvs.map (·.1)).Nodup → kvs[i]? = some (k, v) → valV kvs k = some v ∧ valV (kvs.take i) k = none
  | kv :: r, 0, nd, e => by
    simp at e
    subst e
    exact ⟨valV_pos rfl, rfl⟩
  | kv :: r, i + 1, nd, e => by
    rw [List.map_cons] at nd
    obtain ⟨n1, n2⟩ := List.nodup_cons.mp nd
    have e' : r[i]? = some (k, v) := by simpa using e
    obtain ⟨h1, h2⟩ := valV_at n2 e'
    have ne : ¬ kv.1 = k := fun z => n1 (by rw [z]; exact List.mem_map.mpr ⟨(k, v), List.mem_of_getElem? e', rfl⟩)
    exact ⟨(valV_neg ne).trans h1, by rw [List.take_succ_cons, valV_neg ne]; exact h2⟩
def spCopied : Nat → Sp
  | 0 => fun _ _ _ _ => False
  | n + 1 => fun vs H Q _ => ∃ (v : V) (d : PyData), vs = [v] ∧ Dt H v d ∧ cpy d = true ∧ dpt d ≤ n ∧ ∀ v' H', Ex H H' → Dt (dif H H') v' d → Q v' H'
/-! ### a list of copies -/
structure Cop (H H' : Hp) (D : Addr) (ys : List V) (ds : List PyData) : Prop where
  ex : Ex H H'
  hD : H' D = some (.lst ys)
  dt : DtAll (dif (upd H D (.lst [])) H') ys ds
theorem Cop.add {H H' H2 : Hp} {D : Addr} {ys : List V} {ds : List PyData} {v : V} {d : PyData} (c : Cop H H' D ys ds) (zD : H D = none) (e2 : Ex H' H2) (hv : Dt (dif H' H2) v d) : Cop H (upd H2 D (.lst (ys ++ [v]))) D (ys ++ [v]) (ds ++ [d]) := by
  refine ⟨Ex.mut (c.ex.trans e2) zD, upd_same, ?_⟩
  have n0 : ∀ {a : Addr}, upd H D (.lst []) a = none → a ≠ D := fun h e => by rw [e, upd_same] at h; cases h
  have old : Ex (dif (upd H D (.lst [])) H') (dif (upd H D (.lst [])) (upd H2 D (.lst (ys ++ [v])))) := fun a o h => by
    obtain ⟨h1, h2⟩ := dif_get h
    exact dif_at h1 (by rw [upd_ne (n0 h1)]; exact e2 _ _ h2)
  have new : Ex (dif H' H2) (dif (upd H D (.lst [])) (upd H2 D (.lst (ys ++ [v])))) := fun a o h => by
    obtain ⟨h1, h2⟩ := dif_get h
    have aD : a ≠ D := fun e => by rw [e, c.hD] at h1; cases h1
    refine dif_at ?_ (by rw [upd_ne aD]; exact h2)
    rw [upd_ne aD]
    exact fresh_back c.ex h1
  exact DtAll.append (DtAll.ex old c.dt) (.cons (Dt.ex new hv) .nil)
theorem Cop.all {H H' : Hp} {D : Addr} {ys : List V} {ds : List PyData} (c : Cop H H' D ys ds) (zD : H D = none) : DtAll (dif H H') ys ds := by
  refine DtAll.ex (fun a o h => ?_) c.dt
  obtain ⟨h1, h2⟩ := dif_get h
  refine dif_at ?_ h2
  by_cases e : a = D
  · rw [e]; exact zD
  · rw [upd_ne e] at h1; exact h1
section
variable {P : Program} {w : World} {K : PySem.W.Frag} {mg : Str → Option Value} {base : Heap}
theorem ok_copied {f : Addr} {fd : FuncData} {n : Nat} (F : Fun K "copied" "copied" sCopied f fd) (B : Blt mg) (h0 : HasO P w K mg base n "copied" ["value"] (spCopied n)) : FnOk P w K mg base CX0 (n + 1) f fd ["value"] (spCopied (n + 1)) := by
  obtain ⟨fC, dC, GC, bC, kC, gC⟩ := h0.ex
  refine F.ok scCopied (fun vs H Q E h => by obtain ⟨_, _, rfl, _⟩ := h; rfl) (fun cdv A outer s H vs Q E hr h => ?_)
  obtain ⟨v, d, rfl, hd, hc, hn, q⟩ := h
  have hu := hu_of hr
  refine ⟨_, pss_cons (ps_if (pt_val (pe_callB call_isi (by rfl) B.isi bIsi (pa_cons (pv 0) (pa_cons (pe_bltn (v := .ty "list") (by rfl) B.list bList rfl) pa_nil)))) (pss_one (ps_ret
      (pe_lc (own := [("item", 1)]) (g := gName 1) (tt := tYes) rfl scCopied.nd (pi_list (pv 0)) (blkOk_by (own := [("item", 1)]) (N := nCopied) (sc := defScope sCopied) (by decide +kernel))
        (fun _ _ _ _ _ => pg_name (i := 1) scCopied.nd rfl (Or.inl rfl)) (fun _ _ _ _ _ => pts_nil) (fun _ _ _ _ _ => pe_call GC hr (by rfl) gC kC bC .nil pass0 (pa_cons (pv 1) pa_nil))))) pss_nil)
    (pss_cons (ps_if (pt_val (pe_callB call_isi (by rfl) B.isi bIsi (pa_cons (pv 0) (pa_cons (pe_bltn (v := .ty "tuple") (by rfl) B.tuple bTuple rfl) pa_nil)))) (pss_one (ps_ret (pe_callTy call_tuple_of (by rfl) B.tuple bTuple (pa_cons
      (pe_lc (own := [("item", 1)]) (g := gName 1) (tt := tYes) rfl scCopied.nd (pi_tup (pv 0)) (blkOk_by (own := [("item", 1)]) (N := nCopied) (sc := defScope sCopied) (by decide +kernel))
        (fun _ _ _ _ _ => pg_name (i := 1) scCopied.nd rfl (Or.inl rfl)) (fun _ _ _ _ _ => pts_nil) (fun _ _ _ _ _ => pe_call GC hr (by rfl) gC kC bC .nil pass0 (pa_cons (pv 1) pa_nil))) pa_nil)))) pss_nil)
    (pss_cons (ps_if (pt_val (pe_callB call_isi (by rfl) B.isi bIsi (pa_cons (pv 0) (pa_cons (pe_bltn (v := .ty "dict") (by rfl) B.dict bDict rfl) pa_nil)))) (pss_one (ps_ret (pe_lock
      (pe_dc (own := [("key", 2)]) (g := gName 2) (tt := tYes) (tk := tVar 2) (tv := tCall (spCopied n) [] E0 (tCons (tDGet (tVar 0) (tVar 2)) tNil)) rfl scCopied.nd (pi_keys (pv 0)) (blkOk_by (own := [("key", 2)]) (N := nCopied) (sc := defScope sCopied) (by decide +kernel))
        (fun _ _ _ _ _ => pg_name (i := 2) scCopied.nd rfl (Or.inl rfl)) (fun _ _ _ _ _ => pts_nil) (fun _ _ _ _ _ => pv 2) (fun _ _ _ _ _ => by exact pe_call GC hr (by rfl) gC kC bC .nil pass0 (pa_cons (pe_dget hu (pv 0) (pv 2) (fun _ _ => rfl)) pa_nil)))))) pss_nil)
    (pss_one (ps_ret (pv 0))))), ?_⟩
  have isv : ∀ {T : String} {H' : Hp}, T ∈ ["int", "bool", "str", "list", "tuple", "dict"] → Ex H H' → Ev (tCB (rIsi K) (tCons (tVar 0) (tCons (tC (.ty T)) tNil))) (L2.start nCopied [v]) H' (.bl (isT T d)) := fun hT e => ev_cb (ea_cons (ev_var rfl) (ea_cons ev_c ea_nil)) (rc_isi (Dt.ex e hd) hT)
  have cop0 : ∀ {D : Addr}, H D = none → Cop H (upd H D (.lst [])) D [] [] := fun zD => ⟨Ex.new zD, upd_same, .nil⟩
  have dep : ∀ {ds : List PyData} {i : Nat} {e : PyData}, cpyAll ds = true → dptAll ds + 1 ≤ n → ds[i]? = some e → ∀ {H' : Hp} {x : V} {Q' : VK}, Dt H' x e → (∀ v' H2, Ex H' H2 → Dt (dif H' H2) v' e → Q' v' H2) → spCopied n [x] H' Q' E0 := fun {ds i e} hca hdp he {H' x Q'} hx k => by
    cases n with
    | zero => omega
    | succ m =>
      have := dptAll_get he
      exact ⟨x, e, rfl, hx, cpyAll_get hca he, by omega, k⟩
  cases hd with
  | @lst a xs ds ha hxs =>
    rw [cpy, Bool.and_eq_true] at hc
    have hl : ds.length ≤ 1000 := of_decide_eq_true hc.1
    have lx := hxs.length
    rw [dpt] at hn
    refine q_when (b := true) (et_is (et_B (isv (by decide) (Ex.refl H))) rfl) (fun _ H1 e1 => ?_) (fun z => nomatch z)
    refine ⟨.ref a, rfl, a, rfl, ⟨_, sq_of (e1 _ _ ha)⟩, fun D zD => ?_⟩
    have zD0 := fresh_back e1 zD
    refine lc_list (fun i H' => ∃ ys, Cop H1 H' D ys (ds.take i)) ⟨[], Ex.new zD, upd_same, .nil⟩ (fun i H' _ h => by obtain ⟨ys, c⟩ := h; exact sq_of (c.ex _ _ (e1 _ _ ha))) (fun i x H' hx h => ?_) (fun H' h => ?_)
    · obtain ⟨ys, c⟩ := h
      obtain ⟨e, he, hxe⟩ := hxs.get hx
      have hi : i < ds.length := (List.getElem?_eq_some_iff.mp he).1
      have ly := c.dt.length
      rw [List.length_take] at ly
      refine ⟨rfl, x, rfl, ?_⟩
      dsimp only [tNil]
      refine dep hc.2 hn he (Dt.ex (e1.trans c.ex) hxe) fun v' H2 e2 hv' => ⟨ys, e2 _ _ c.hD, sz_lt (by omega), ys ++ [v'], ?_⟩
      have tk : ds.take (i + 1) = ds.take i ++ [e] := by
        rw [List.take_succ, he]
        rfl
      rw [tk]
      exact c.add zD e2 hv'
    · obtain ⟨ys, c⟩ := h
      rw [lx, List.take_length] at c
      refine q (.ref D) H' (e1.trans c.ex) (.lst (dif_at zD0 c.hD) (DtAll.ex (fun a o z => ?_) (c.all zD)))
      obtain ⟨z1, z2⟩ := dif_get z
      exact dif_at (fresh_back e1 z1) z2
  | @tup a xs ds ha hxs =>
    rw [cpy, Bool.and_eq_true] at hc
    have hl : ds.length ≤ 1000 := of_decide_eq_true hc.1
    have lx := hxs.length
    rw [dpt] at hn
    have hT : ∀ {H' : Hp}, Ex H H' → Dt H' (.ref a) (.tuple ds) := fun e => Dt.ex e (.tup ha hxs)
    refine q_when (b := false) (et_is (et_B (isv (by decide) (Ex.refl H))) rfl) (fun z => nomatch z) (fun _ H0 e0 => ?_)
    refine q_when (b := true) (et_is (et_B (isv (by decide) e0)) rfl) (fun _ H1 e01 => ?_) (fun z => nomatch z)
    have e1 := e0.trans e01
    refine ⟨.ref a, rfl, a, rfl, ⟨_, st_of (e1 _ _ ha)⟩, fun D zD => ?_⟩
    have zD0 := fresh_back e1 zD
    refine lc_tup (fun i H' => ∃ ys, Cop H1 H' D ys (ds.take i)) ⟨[], Ex.new zD, upd_same, .nil⟩ (fun i H' _ h => by obtain ⟨ys, c⟩ := h; exact st_of (c.ex _ _ (e1 _ _ ha))) (fun i x H' hx h => ?_) (fun H' h => ?_)
    · obtain ⟨ys, c⟩ := h
      obtain ⟨e, he, hxe⟩ := hxs.get hx
      have hi : i < ds.length := (List.getElem?_eq_some_iff.mp he).1
      have ly := c.dt.length
      rw [List.length_take] at ly
      refine ⟨rfl, x, rfl, ?_⟩
      dsimp only [tNil]
      refine dep hc.2 hn he (Dt.ex (e1.trans c.ex) hxe) fun v' H2 e2 hv' => ⟨ys, e2 _ _ c.hD, sz_lt (by omega), ys ++ [v'], ?_⟩
      have tk : ds.take (i + 1) = ds.take i ++ [e] := by
        rw [List.take_succ, he]
        rfl
      rw [tk]
      exact c.add zD e2 hv'
    · obtain ⟨ys, c⟩ := h
      rw [lx, List.take_length] at c
      refine ⟨D, ys, rfl, .inl ⟨sq_of c.hD, fun t zt => ?_⟩⟩
      have et := Ex.new (o := .tup ys) zt
      refine q (.ref t) _ ((e1.trans c.ex).trans et) (.tup (dif_at (fresh_back (e1.trans c.ex) zt) upd_same) (DtAll.ex (fun a o z => ?_) (c.all zD)))
      obtain ⟨z1, z2⟩ := dif_get z
      exact dif_at (fresh_back e1 z1) (et _ _ z2)
  | @dct a kvs es ha hkv =>
    rw [cpy, Bool.and_eq_true, Bool.and_eq_true] at hc
    have hl : es.length ≤ 1000 := of_decide_eq_true hc.1.1
    have lx := hkv.len
    have nd := kdis_nodup hkv hc.2
    rw [dpt] at hn
    refine q_when (b := false) (et_is (et_B (isv (by decide) (Ex.refl H))) rfl) (fun z => nomatch z) (fun _ H0 e0 => ?_)
    refine q_when (b := false) (et_is (et_B (isv (by decide) e0)) rfl) (fun z => nomatch z) (fun _ H01 e01 => ?_)
    refine q_when (b := true) (et_is (et_B (isv (by decide) (e0.trans e01))) rfl) (fun _ H1 e02 => ?_) (fun z => nomatch z)
    have e1 := (e0.trans e01).trans e02
    refine ⟨a, .dK kvs, e1 _ _ ha, trivial, fun od => ⟨.ref a, rfl, a, od, rfl, .inl ⟨kvs, upd_same, fun D zD => ?_⟩⟩⟩
    have Da : D ≠ a := fun e => by rw [e, upd_same] at zD; cases zD
    have zD1 : H1 D = none := by rw [upd_ne Da] at zD; exact zD
    have wk := walk_keys (d := a) (o := od) (kvs := kvs)
    refine ⟨fun i m H' => m = kvs.length - i ∧ i ≤ kvs.length ∧ H' a = some (.frz od (.dK kvs)) ∧ (∀ c o, c ≠ a → H1 c = some o → H' c = some o) ∧ H' D = some (.dK (kvs.take i)), ⟨kvs.length, rfl, Nat.zero_le _, by rw [upd_ne Da.symm, upd_same], fun c o nc h => by rw [upd_ne (ne_of_none h zD1), upd_ne nc]; exact h, upd_same⟩, ?_⟩
    rintro i m H' ⟨rfl, hi, ha', old, hD⟩
    by_cases hlt : i < kvs.length
    · refine .inr ⟨wk.goes i H' hlt ha', fun H2 => H2 a = some (.frz od (.dK kvs)) ∧ (∀ c o, c ≠ a → H1 c = some o → H2 c = some o) ∧ H2 D = some (.dK (kvs.take (i + 1))), fun H2 z => ⟨kvs.length - (i + 1), by omega, rfl, hlt, z.1, z.2.1, z.2.2⟩, fun x H2 y => ?_⟩
      obtain ⟨rfl, k, v, hk, rfl⟩ := wk.yields i H' x H2 hlt ha' y
      obtain ⟨g1, g2⟩ := valV_at nd hk
      obtain ⟨e, he, hve⟩ := kv_get hkv hk
      have fe : flatD e.2 = true := List.all_eq_true.mp hc.1.2 e (List.mem_of_getElem? he)
      refine ⟨rfl, kV k, rfl, .ref a, rfl, kV k, rfl, a, v, rfl, .inl ⟨kvs, k, .inr ⟨od, ha'⟩, rfl, g1.symm⟩, ?_⟩
      dsimp only [tNil]
      obtain ⟨n', rfl⟩ : ∃ n', n = n' + 1 := ⟨n - 1, by omega⟩
      refine ⟨v, e.2, rfl, flat_any hve fe, ?_, ?_, fun v' H3 e3 hv' => ?_⟩
      · cases hq : e.2 <;> rw [hq] at fe <;> first | rfl | exact nomatch fe
      · cases hq : e.2 <;> rw [hq] at fe <;> first | exact Nat.zero_le _ | exact nomatch fe
      · have ev := flat_eq hve hv' fe
        subst ev
        have hz : H2 a = some (.frz od (.dK kvs)) := ha'
        refine ⟨_, k, rfl, e3 _ _ hD, sz_lt (by rw [List.length_take]; omega), ?_, fun c o nc h => ?_, ?_⟩
        · rw [upd_ne Da.symm]; exact e3 _ _ hz
        · rw [upd_ne (ne_of_none h zD1)]; exact e3 _ _ (old c o nc h)
        · rw [upd_same, putK_new _ g2, List.take_succ, hk]; rfl
    · have ei : i = kvs.length := by omega
      subst ei
      rw [List.take_length] at hD
      refine .inl ⟨wk.stops H' ha', ha', ?_⟩
      refine q (.ref D) _ (fun c o h => ?_) (.dct (dif_at (fresh_back e1 zD1) (by rw [upd_ne Da]; exact hD)) (flatKv hkv hc.1.2))
      by_cases ec : c = a
      · rw [ec, upd_same]
        rw [ec, ha] at h
        exact h
      · rw [upd_ne ec]
        exact old c o ec (e1 _ _ h)
  | _ =>
    refine q_when (b := false) (et_is (et_B (isv (by decide) (Ex.refl H))) rfl) (fun z => nomatch z) (fun _ H1 e1 => ?_)
    refine q_when (b := false) (et_is (et_B (isv (by decide) e1)) rfl) (fun z => nomatch z) (fun _ H2 e2 => ?_)
    refine q_when (b := false) (et_is (et_B (isv (by decide) (e1.trans e2))) rfl) (fun z => nomatch z) (fun _ H3 e3 => ?_)
    refine ⟨_, rfl, q _ H3 ((e1.trans e2).trans e3) (by constructor)⟩
/-- at every depth -/
theorem copied_all {h : Heap} (X : K.In h) (G : h.Ns mainGlobals mg) (D : DefAt K "copied" sCopied) (B : Blt mg) : ∀ n : Nat, HasO P w K mg base n "copied" ["value"] (spCopied n)
  | 0 => hasO_mk X G D (fun _ _ _ _ _ _ us hl => match us, hl with | [_], _ => rfl) fun f fd F => ⟨fun _ _ _ _ z => z.elim, fun _ _ _ _ _ _ _ _ _ _ _ _ _ z => z.elim⟩
  | n + 1 => hasO_mk X G D (fun _ _ _ _ _ _ us hl => match us, hl with | [_], _ => rfl) fun f fd F => ok_copied F B (copied_all X G D B n)
end
end Cr
/-! own errors as values: made, asked, read -/
/-! super().__init__(..) first, then statements that call (Room is told) -/
namespace Cr
open PySem PySem.Spec PyProof.Rows L2 Evl
section
variable {P : Program} {w : World} {K : PySem.W.Frag} {mg : Str → Option Value} {base : Heap}
theorem okSupGR {name qual : Str} {params : Arguments} {scope : Scope} {dV kV doc pm ct oc : Value} {an od : Option Addr} {osl : Array (Option Value)} {f C cda cc : Addr} {b : XB} {N ps : List Str} {k : Nat} {sp : Sp}
    {p0 p1 p2 p3 p4 : Pos} {e : Expr} {es : List Expr} {rest : List Stmt} {ar : Arg}
    (lk : K.lookup f = some ⟨oc, od, .func (PySem.W.ksFn name qual params (.Expr (.Call (.Attribute (.Call (.Name "super" p0) [] [] p1) "__init__" p2) (e :: es) [] p3) p4 :: rest) scope dV kV doc pm an (.ref cda) ct cc), osl⟩)
    (hcd : PySem.W.codeIn K (.ref cda) qual = true) (S : SupScope N ps scope) (T : SupG P K C cda cc b) (hsup : mg "super" = none)
    (hp0 : (params.posonlyargs ++ params.args).head? = some ar) (hself : N[0]? = some ar.arg) (hps : ar.arg ∈ ps)
    (len : ∀ vs H Q E, sp vs H Q E → vs.length = ps.length)
    (hbody : ∀ (A : Around) (outer : List Env) (s : Shared) (H : Hp) (vs : List V) (Q : VK) (E : XK), Room k (A.deeper (PySem.W.ksEnv qual scope s.heap.objs.size f (.ref cda) cc)) → sp vs H Q E →
      ∃ (a : Addr) (ta : TA) (t : TS), (L2.start N vs)[0]? = some (some (.ref a)) ∧ H a = some (exo a C none) ∧ PA (cxSup P w K mg base N qual scope f cda cc A outer s H) (e :: es) ta ∧
        PSs (cxSup P w K mg base N qual scope f cda cc A outer s H) rest t ∧
        ta (L2.start N vs) H fun ws H1 => ws.length ≤ 1000 ∧ H1 a = some (exo a C none) ∧ t { nx := fun _ H' => Q .non H', rt := Q } (L2.start N vs) H1)
    {pl : Addr → Sem Bool}
    (hc : ∀ L : Addr, eval (.Call (.Attribute (.Call (.Name "super" p0) [] [] p1) "__init__" p2) (e :: es) [] p3) (PySem.W.ksEnv qual scope L f (.ref cda) cc) = (do
      let ov ← attributeBase (.Call (.Name "super" p0) [] [] p1) "__init__" (PySem.W.ksEnv qual scope L f (.ref cda) cc) (eval (.Call (.Name "super" p0) [] [] p1) (PySem.W.ksEnv qual scope L f (.ref cda) cc))
      standAt p2.atName
      let (fx, first) ← holding [ov] (getMethod ov "__init__" (pl L))
      callWith p3 fx first (backTo p3 (starEach (e :: es) (PySem.W.ksEnv qual scope L f (.ref cda) cc))) []) := by intro _; rfl)
    (hint : ∀ L : Addr, interactive (PySem.W.ksEnv qual scope L f (.ref cda) cc) = false := by intro _; rfl)
    (hsw : ∀ L : Addr, swapsWith (.Call (.Attribute (.Call (.Name "super" p0) [] [] p1) "__init__" p2) (e :: es) [] p3) none p4.line (PySem.W.ksEnv qual scope L f (.ref cda) cc) = pure false := by intro _; rfl)
    (he : ∀ L : Addr, starEach (e :: es) (PySem.W.ksEnv qual scope L f (.ref cda) cc) = (false, eval e (PySem.W.ksEnv qual scope L f (.ref cda) cc)) :: starEach es (PySem.W.ksEnv qual scope L f (.ref cda) cc) := by intro _; rfl)
    (hpl : ∀ L : Addr, (backTo p3 (starEach es (PySem.W.ksEnv qual scope L f (.ref cda) cc))).any (·.1) = false := by intro _; rfl) :
    FnOk P w K mg base CX0 (k + 1) f (PySem.W.ksFn name qual params (.Expr (.Call (.Attribute (.Call (.Name "super" p0) [] [] p1) "__init__" p2) (e :: es) [] p3) p4 :: rest) scope dV kV doc pm an (.ref cda) ct cc) ps sp := by
  refine ⟨len, fun A outer s H args us vs Q E hr e0 hb r hsp => ?_⟩
  have keepB : ∀ b o, base.get? b = some o → s.heap.get? b = some o := fun b o e => (e0.bs b o e).1
  obtain ⟨cl, cld, csl, hcell⟩ := T.cell
  obtain ⟨ccl, cdd, cvs, ccs, file, tf, hcode, hvs, hfile⟩ := T.code
  refine ks_codeAny_call_defAt (fd := PySem.W.ksFn name qual params _ scope dV kV doc pm an (.ref cda) ct cc) (binds := ps.zip us) hr.depth ((e0.mod.kin.keeps keepB) _ _ lk) rfl (e0.mod.nolimit.keeps keepB) (PySem.W.codeRec_of (e0.mod.kin.keeps keepB) hcd) rfl hb S.nocell
    (fun x hx => S.par x.1 (List.of_mem_zip (show (x.1, x.2) ∈ ps.zip us from hx)).1) (fun h₁ hns hk => ?_) S.co S.gen S.kind
  obtain ⟨a, ta, t, hs0, hea, hta, ht, hT⟩ := hbody A outer s H vs Q E (hr.deeper _) hsp
  have I : Inv (cxSup P w K mg base N qual scope f cda cc A outer s H) [] (L2.start N vs) H { s with heap := h₁, toks := s.toks + (ps.zip us).length } := inv_sup S hr.hd e0 (len _ _ _ _ hsp) r hcell hns hk
  have kIn := I.kIn
  obtain ⟨m, hn, hlk⟩ := I.loc
  obtain ⟨u0, hu0, hl0⟩ := hlk 0 ar.arg (.ref a) hself hs0 (.inl (S.par _ hps))
  obtain rfl : u0 = Value.ref a := hu0
  have hma : m ar.arg = some (.ref a) := by
    rcases hl0 with ⟨_, z⟩ | ⟨z, _⟩
    · exact z
    · have k1 : scope.names.lookup ar.arg = some .local := S.par _ hps
      rcases z with z | z
      · have z' : scope.names.lookup ar.arg = some .cell := z
        rw [k1] at z'; cases z'
      · have z' : scope.names.lookup ar.arg = some .free := z
        rw [k1] at z'; cases z'
  obtain ⟨t1, ho⟩ := exo_at I.hok hea
  obtain ⟨nm, q, N', bs, bm, sn, sub, ab, col, dd, k0, k1, k2, k3, k5, hC, hbm⟩ := T.oex.cls
  have hcl : PySem.W.clsIn K C = some { name := nm, bases := bs, mro := .ref C :: bm, ns := N', qualname := q, hasDict := true, slotNames := sn, subclasses := sub, abstract := ab, collection := col, hasDel := false } := by unfold PySem.W.clsIn; rw [hC] <;> rfl
  obtain ⟨mb, hmb, hbb⟩ := I.mod.blt
  have J : PySem.W.InstAt h₁ a { cls := .ref C, dict := none, data := .fields #[.ref t1, .none, .none, .none, .bool false, .none] } C none := ⟨ho, rfl, rfl, trivial⟩
  have hne : a ≠ C := PySem.W.ks_ne kIn J hcl
  show PySem.wpAt (model P w) (A.deeper (PySem.W.ksEnv qual scope s.heap.objs.size f (.ref cda) cc)) (.func _ (PySem.W.ksEnv qual scope s.heap.objs.size f (.ref cda) cc)) (execs _ (PySem.W.ksEnv qual scope s.heap.objs.size f (.ref cda) cc)) _ _ _
  refine ks_wpAt_execs_cons (ks_wpAt_Expr_any (ks_wpAt_MethodCall (pl := pl s.heap.objs.size) (ks_wpAt_super_base (f := f) S.sup S.cls (by decide) rfl (kIn _ _ lk) rfl hp0 rfl (kIn _ _ hcode) rfl hvs hfile T.top ?_) (hc _)) (hint _) (hsw _))
  refine PySem.W.ks_loadName_global S.kind S.sup (PySem.Calls.loadGlobal_builtin (mg := mg) (mb := mb) (I.mod.glob.keeps I.bk) hsup (hmb.keeps I.bk) ((hbb _ (by decide +kernel)).trans (by first | boot_by_name | rfl | kernel_rfl)) ⟨rfl, ?_⟩)
  refine wpAny_loadName_free S.kind S.cls rfl ⟨_, kIn _ _ hcell, rfl⟩ ?_
  refine wpAny_loadName_local S.kind (S.par _ hps) hn hma ?_
  refine ks_wpAny_isType_cls (kIn _ _ hC) rfl ⟨rfl, ?_⟩
  refine ks_wpAny_call_super (kIn _ _ hC) rfl ho rfl (fun c z => by cases z) (PySem.W.looks_mroIn kIn T.self) (fun h2 e2 kk2 => ?_)
  have I2 : Inv (cxSup P w K mg base N qual scope f cda cc A outer s H) [] (L2.start N vs) H { s with heap := h2, toks := s.toks + (ps.zip us).length } := I.kept (t' := s.toks + (ps.zip us).length) kk2
  have hm2 := T.up
  unfold PySem.W.ks_superIn at hm2
  rw [hcl] at hm2
  have J2 : PySem.W.InstAt h2 a { cls := .ref C, dict := none, data := .fields #[.ref t1, .none, .none, .none, .bool false, .none] } C none := ⟨kk2 _ _ ho, rfl, rfl, trivial⟩
  refine PySem.W.kxs_getMethod T.oex.ok.sup e2 (PySem.W.looks_opaque I2.kIn T.opq) (l₀ := .ref C :: bm) (fun A Q E s k q => wpAny_bind ((PySem.W.looks_clsIn I2.kIn hcl) A _ E s k (wpAny_pure q))) rfl I2.kIn hm2
    (J2.type.andThen (PySem.W.looks_subIn I2.kIn T.sub)) hne (by decide) ?_
  have kk3 : ∀ b' o, h2.get? b' = some o → (h2.push (PySem.W.kxs_mw b.ini a)).get? b' = some o := fun b' o z => Heap.get?_push_of_some _ z
  have I3 : Inv (cxSup P w K mg base N qual scope f cda cc A outer s H) [] (L2.start N vs) H { s with heap := h2.push (PySem.W.kxs_mw b.ini a), toks := s.toks + (ps.zip us).length + 1 } := I2.kept (t' := s.toks + (ps.zip us).length + 1) kk3
  have I4 : Inv (cxSup P w K mg base N qual scope f cda cc A outer s H) [(h2.objs.size, PySem.W.kxs_mw b.ini a)] (L2.start N vs) H { s with heap := h2.push (PySem.W.kxs_mw b.ini a), toks := s.toks + (ps.zip us).length + 1 } :=
    ⟨I3.ok, I3.os, I3.bare, I3.base, I3.loc, I3.cell, I3.free, I3.freeC, fun p hp => by
      have hp' : p = (h2.objs.size, PySem.W.kxs_mw b.ini a) := List.mem_singleton.mp hp
      subst hp'
      exact ⟨Heap.get?_push_at rfl rfl, I2.hok.fresh (Nat.le_refl _), Nat.ne_of_gt I2.lt, I2.nofs (Nat.le_refl _), fun v z => by cases z⟩, I3.hok, I3.len⟩
  have hev := he s.heap.objs.size
  have hpv := hpl s.heap.objs.size
  show wpAny (model P w) _ (callWith p3 (.ref h2.objs.size) [] (backTo p3 (starEach (e :: es) (PySem.W.ksEnv qual scope s.heap.objs.size f (.ref cda) cc))) []) _ _ _
  have ru := hta.run p3 _ _ _ _ _ I4 hT
  have ru' : wpAny (model P w) (A.deeper (PySem.W.ksEnv qual scope s.heap.objs.size f (.ref cda) cc)) (spliced (backTo p3 (starEach (e :: es) (PySem.W.ksEnv qual scope s.heap.objs.size f (.ref cda) cc)))) _ (fun _ _ => False) _ := ru
  rw [hev] at ru' ⊢
  refine PySem.W.kxs_callWith (i := b.ini) (x := a) (by show (false || (backTo p3 (starEach es _)).any (·.1)) = false; rw [hpv]; rfl) (PySem.Calls.evalArgs_plain ?_)
  refine wpAny_mono ru' (fun ws s5 h5 => ?_) fun _ _ z => z.elim
  obtain ⟨vs5, H5, I5, r5, hl5, he5, hT5⟩ := h5
  have hu5 := (I5.pin _ (List.mem_append_right _ List.mem_cons_self)).1
  refine ⟨hu5, ?_⟩
  refine boundG T.oex I5 he5 hu5 (by show ws.length ≤ sizeLine; rw [← Paired.length r5, sizeLine_eq]; omega) fun s6 I6 => ?_
  have go := ht.run _ _ _ _ _ I6 hT5
  refine wpAt_of_wpAny ?_
  refine wpAny_mono go (fun fl s7 h7 => ?_) fun _ _ z => z.elim
  match fl, h7 with
  | .ret u, ⟨v, σ2, H2, J7, rv, q7⟩ => exact ⟨v, H2, J7.os, J7.bare, J7.base, J7.hok, rv, q7⟩
  | .next, ⟨σ2, H2, J7, q7⟩ => exact ⟨V.non, H2, J7.os, J7.bare, J7.base, J7.hok, rfl, q7⟩
  | .brk, ⟨_, _, _, q7⟩ => exact q7.elim
  | .cont, ⟨_, _, _, q7⟩ => exact q7.elim
end
end Cr
/-! errors with one value that is copied -/
namespace Cr
open PySem PySem.Spec PyProof.Rows L2 Evl
/-- its __init__: a copy of the value in the field f -/
def spInitC (C : Addr) (f : Str) (n : Nat) : Sp := fun vs H Q _ => ∃ (a : Addr) (v : V) (d : PyData), vs = [.ref a, v] ∧ Dt H v d ∧ cpy d = true ∧ dpt d < n ∧ H a = some (exo a C none) ∧
  ∀ v' H' dx, Ex H H' → Dt (dif H H') v' d → H' dx = none → dx ≠ a → Q .non (upd (upd H' dx (exd dx [(f, v')])) a (exo a C (some dx)))
abbrev sIInvalidName : Stmt := inClass (topS 4) 0
theorem scIInvalidName : SupScope ["self", "value"] ["self", "value"] (defScope sIInvalidName) := ⟨rfl, rfl, rfl, by decide +kernel, rfl, by decide +kernel, by decide +kernel, by decide +kernel, by decide +kernel, by decide +kernel⟩
section
variable {P : Program} {w : World} {K : PySem.W.Frag} {mg : Str → Option Value} {base : Heap}
theorem ok_iInvalidName {C fI : Addr} {fd : FuncData} {b : XB} {k : Nat} (T : ErrAt P K mg C fI fd b "InvalidName" "InvalidName.__init__" "value" sIInvalidName) (B : Blt mg) (h1 : HasO P w K mg base k "copied" ["value"] (spCopied k)) : FnOk P w K mg base CX0 (k + 1) fI fd ["self", "value"] (spInitC C "value" k) := by
  obtain ⟨f1, d1, G1, b1, k1, g1⟩ := h1.ex
  obtain ⟨cda, cc, oc, od, an, kV, doc, pm, ct, osl, rfl, lk, hcd, S⟩ := T.ex
  refine okSupGR lk hcd scIInvalidName S B.sup rfl rfl (by decide) (fun vs H Q E h => by obtain ⟨_, _, _, rfl, _⟩ := h; rfl) (fun A outer s H vs Q E hr h => ?_)
  obtain ⟨a, v, d, rfl, hd, hc, hn, ha, q⟩ := h
  refine ⟨a, _, _, rfl, ha, pa_cons pe_str pa_nil, pss_one (ps_ostG (pv 0) (pe_call (E := E0) G1 hr (by rfl) g1 k1 b1 .nil pass0 (pa_cons (pv 1) pa_nil))), ?_⟩
  refine ⟨by show 1 ≤ 1000; decide, ha, v, rfl, ?_⟩
  cases k with
  | zero => omega
  | succ n => exact ⟨v, d, rfl, hd, hc, by omega, fun v' H' e' hv' => ⟨.ref a, rfl, a, C, b, rfl, S.oex, T.no, .inl ⟨e' _ _ ha, fun dx hdx ne => q v' H' dx e' hv' hdx ne⟩⟩⟩
end
end Cr
/-! errors with two values -/
/-! errors whose second value is copied -/
namespace Cr
open PySem PySem.Spec PyProof.Rows L2 Evl
/-- lists, tuples, dicts stay -/
def KeepD (H H' : Hp) : Prop := (∀ b xs, H b = some (.lst xs) → H' b = some (.lst xs)) ∧ (∀ b xs, H b = some (.tup xs) → H' b = some (.tup xs)) ∧ ∀ b kvs, H b = some (.dK kvs) → H' b = some (.dK kvs)
mutual
theorem Dt.keepD {H H' : Hp} (e : KeepD H H') : ∀ {v : V} {d : PyData}, Dt H v d → Dt H' v d
  | _, _, .non => .non
  | _, _, .bl b => .bl b
  | _, _, .int i => .int i
  | _, _, .str x => .str x
  | _, _, .lst h a => .lst (e.1 _ _ h) (DtAll.keepD e a)
  | _, _, .tup h a => .tup (e.2.1 _ _ h) (DtAll.keepD e a)
  | _, _, .dct h a => .dct (e.2.2 _ _ h) (DtKv.keepD e a)
theorem DtAll.keepD {H H' : Hp} (e : KeepD H H') : ∀ {vs : List V} {ds : List PyData}, DtAll H vs ds → DtAll H' vs ds
  | _, _, .nil => .nil
  | _, _, .cons a b => .cons (Dt.keepD e a) (DtAll.keepD e b)
theorem DtKv.keepD {H H' : Hp} (e : KeepD H H') : ∀ {kvs : List (Key × V)} {es : List (PyData × PyData)}, DtKv H kvs es → DtKv H' kvs es
  | _, _, .nil => .nil
  | _, _, .cons a b => .cons (Dt.keepD e a) (DtKv.keepD e b)
end
theorem keep_one {H : Hp} {a C dx : Addr} {f : Str} {v : V} (ha : H a = some (exo a C none)) (hdx : H dx = none) : KeepD H (upd (upd H dx (exd dx [(f, v)])) a (exo a C (some dx))) := by
  have ne : ∀ {b : Addr} {o : HO}, H b = some o → exo a C none ≠ o → b ≠ a ∧ b ≠ dx := fun {b o} h n => ⟨at_ne ha h n, ne_of_none h hdx⟩
  refine ⟨fun b xs h => ?_, fun b xs h => ?_, fun b kvs h => ?_⟩
  · obtain ⟨n1, n2⟩ := ne h (fun z => by have z' : HO.ext _ = HO.lst xs := z; cases z')
    rw [upd_ne n1, upd_ne n2]; exact h
  · obtain ⟨n1, n2⟩ := ne h exo_tup
    rw [upd_ne n1, upd_ne n2]; exact h
  · obtain ⟨n1, n2⟩ := ne h (fun z => by have z' : HO.ext _ = HO.dK kvs := z; cases z')
    rw [upd_ne n1, upd_ne n2]; exact h
/-- both copied -/
def spInitB (C : Addr) (f g : Str) (n : Nat) : Sp := fun vs H Q _ => ∃ (a : Addr) (v u : V) (d e : PyData), vs = [.ref a, v, u] ∧ Dt H v d ∧ cpy d = true ∧ dpt d < n ∧ Dt H u e ∧ cpy e = true ∧ dpt e < n ∧ H a = some (exo a C none) ∧
  ∀ v' H1 dx, Ex H H1 → Dt (dif H H1) v' d → H1 dx = none → dx ≠ a → ∀ u' H', Ex (upd (upd H1 dx (exd dx [(f, v')])) a (exo a C (some dx))) H' → Dt (dif (upd (upd H1 dx (exd dx [(f, v')])) a (exo a C (some dx))) H') u' e → Q .non (upd H' dx (exd dx [(g, u'), (f, v')]))
abbrev sINoNeed : Stmt := inClass (topS 7) 0
theorem scINoNeed : SupScope ["self", "source", "target"] ["self", "source", "target"] (defScope sINoNeed) := ⟨rfl, rfl, rfl, by decide +kernel, rfl, by decide +kernel, by decide +kernel, by decide +kernel, by decide +kernel, by decide +kernel⟩
section
variable {P : Program} {w : World} {K : PySem.W.Frag} {mg : Str → Option Value} {base : Heap}
theorem ok_iNoNeed {C fI : Addr} {fd : FuncData} {b : XB} {k : Nat} (T : ErrAt P K mg C fI fd b "NoNeed" "NoNeed.__init__" "source" sINoNeed) (n2 : PySem.W.findIn K (.ref C) "target" = some none) (B : Blt mg) (h1 : HasO P w K mg base k "copied" ["value"] (spCopied k)) : FnOk P w K mg base CX0 (k + 1) fI fd ["self", "source", "target"] (spInitB C "source" "target" k) := by
  obtain ⟨f1, d1, G1, b1, k1, g1⟩ := h1.ex
  obtain ⟨cda, cc, oc, od, an, kV, doc, pm, ct, osl, rfl, lk, hcd, S⟩ := T.ex
  refine okSupGR lk hcd scINoNeed S B.sup rfl rfl (by decide) (fun vs H Q E h => by obtain ⟨_, _, _, _, _, rfl, _⟩ := h; rfl) (fun A outer s H vs Q E hr h => ?_)
  obtain ⟨a, v, u, d, e, rfl, hd, hc, hn, he, hc2, hn2, ha, q⟩ := h
  refine ⟨a, _, _, rfl, ha, pa_cons pe_str pa_nil, pss_cons (ps_ostG (pv 0) (pe_call (E := E0) G1 hr (by rfl) g1 k1 b1 .nil pass0 (pa_cons (pv 1) pa_nil))) (pss_one (ps_ostG (pv 0) (pe_call (E := E0) G1 hr (by rfl) g1 k1 b1 .nil pass0 (pa_cons (pv 2) pa_nil)))), ?_⟩
  refine ⟨by show 1 ≤ 1000; decide, ha, v, rfl, ?_⟩
  cases k with
  | zero => omega
  | succ n =>
    refine ⟨v, d, rfl, hd, hc, by omega, fun v' H1 e1 hv' => ⟨.ref a, rfl, a, C, b, rfl, S.oex, T.no, .inl ⟨e1 _ _ ha, fun dx hdx ne => ⟨u, rfl, u, e, rfl, Dt.keepD (keep_one (e1 _ _ ha) hdx) (Dt.ex e1 he), hc2, by omega, fun u' H' e' hu' => ?_⟩⟩⟩⟩
    exact ⟨.ref a, rfl, a, C, b, rfl, S.oex, n2, .inr ⟨dx, _, e' _ _ upd_same, e' _ _ (by rw [upd_ne ne, upd_same]), by show 1 ≤ 900; decide, q v' H1 dx e1 hv' hdx ne u' H' e' hu'⟩⟩
end
end Cr
/-! own errors as they are made and raised, by the data of their fields -/
namespace Cr
open PySem PySem.Spec PyProof.Rows L2 Evl
def cpyTo (n : Nat) (d : PyData) : Prop := cpy d = true ∧ dpt d < n
def MkErr (P : Program) (w : World) (K : PySem.W.Frag) (mg : Str → Option Value) (base : Heap) (k : Nat) (C : Addr) (cn : Str) (m : Nat) (sp : Sp) : Prop :=
  ∃ (fI : Addr) (fd : FuncData) (b : XB) (ps : List Str), ps.length = m + 1 ∧ OexG K C b ∧ FnOk P w K mg base CX0 k fI fd ps sp ∧ Binds K fd ps [] ∧ PySem.W.findIn K (.ref C) "__init__" = some (some (.ref fI)) ∧ PySem.W.typeIn K (.ref fI) = some (.type "function") ∧ mg cn = some (.ref C)
theorem mkErr_of {P : Program} {w : World} {K : PySem.W.Frag} {mg : Str → Option Value} {base : Heap} {k m : Nat} {C fI : Addr} {fd : FuncData} {b : XB} {cn qual fld : Str} {st : Stmt} {ps : List Str} {sp : Sp} (T : ErrAt P K mg C fI fd b cn qual fld st) (hm : ps.length = m + 1) (G : FnOk P w K mg base CX0 k fI fd ps sp)
    (hb : ∀ (kV doc pm ct : Value) (an : Option Addr) (cda cc : Addr) (us : List Value), us.length = ps.length → bindArgs (PySem.W.ksFn "__init__" qual (defArgs st) (defBody st) (defScope st) .none kV doc pm an (.ref cda) ct cc) ⟨us, []⟩ = pure (ps.zip us)) : MkErr P w K mg base k C cn m sp := by
  obtain ⟨cda, cc, oc, od, an, kV, doc, pm, ct, osl, rfl, lk, hcd, S⟩ := T.ex
  exact ⟨fI, _, b, ps, hm, S.oex, G, .all fun us hl => hb kV doc pm ct an cda cc us hl, T.init, T.fn, T.at_⟩
/-- raised with the datum d in the field f -/
structure Rsd1 (H H' : Hp) (dx : Addr) (f : Str) (d : PyData) : Prop where
  new : H dx = none
  ex : Ex H H'
  at_ : ∃ v, H' dx = some (.xd [(f, v)]) ∧ Dt H' v d
/-- .. with two -/
structure Rsd2 (H H' : Hp) (dx : Addr) (f g : Str) (d e : PyData) : Prop where
  new : H dx = none
  ex : Ex H H'
  at_ : ∃ v u, H' dx = some (.xd [(g, u), (f, v)]) ∧ Dt H' v d ∧ Dt H' u e
theorem Rsd1.back {H0 H H' : Hp} {dx : Addr} {f : Str} {d : PyData} (r : Rsd1 H H' dx f d) (e : Ex H0 H) : Rsd1 H0 H' dx f d := ⟨fresh_back e r.new, e.trans r.ex, r.at_⟩
theorem Rsd2.back {H0 H H' : Hp} {dx : Addr} {f g : Str} {d e' : PyData} (r : Rsd2 H H' dx f g d e') (e : Ex H0 H) : Rsd2 H0 H' dx f g d e' := ⟨fresh_back e r.new, e.trans r.ex, r.at_⟩
section
variable {C : Addr} {f g : Str} {n : Nat} {ta : TA} {σ : L2.St} {H : Hp} {Q : XK}
theorem mk_cpy (h : ta σ H fun vs H1 => ∃ v d, vs = [v] ∧ Dt H1 v d ∧ cpyTo n d ∧ ∀ dx H', Rsd1 H1 H' dx f d → Q (.ref C) (some dx) H')
    (mono : ∀ {σ : L2.St} {H : Hp} {R S : List V → Hp → Prop}, (∀ vs H1, R vs H1 → S vs H1) → ta σ H R → ta σ H S) : tMkO C (spInitC C f n) [] ta σ H Q := by
  refine mono (fun vs H1 hh => ?_) h
  obtain ⟨v, d, rfl, hd, ⟨c1, c2⟩, q⟩ := hh
  refine ⟨by show 1 ≤ 1000; decide, fun a ha => ⟨a, v, d, rfl, Dt.ex (Ex.new ha) hd, c1, c2, upd_same, fun v' H' dx e1 hv hx ne => ⟨rfl, dx, [(f, v')], upd_same, ?_, ?_, ?_⟩⟩⟩
  · rw [upd_ne ne, upd_same]
  · cases z : H1 dx with
    | none => rfl
    | some o => rw [e1 dx o (by rw [upd_ne ne]; exact z)] at hx; cases hx
  · have z1 : H1 dx = none := by
      cases z : H1 dx with
      | none => rfl
      | some o => rw [e1 dx o (by rw [upd_ne ne]; exact z)] at hx; cases hx
    refine q dx _ ⟨z1, fun b o hb => ?_, v', upd_same, Dt.ex (fun b o hb => ?_) hv⟩
    · have na : b ≠ a := ne_of_none hb ha
      have nx : b ≠ dx := ne_of_none hb z1
      rw [upd_ne nx, del_ne na, upd_ne na, upd_ne nx]
      exact e1 b o (by rw [upd_ne na]; exact hb)
    · obtain ⟨zb, h1⟩ := dif_get hb
      have na : b ≠ a := fun q => by rw [q, upd_same] at zb; cases zb
      have nx : b ≠ dx := ne_of_none h1 hx
      rw [upd_ne nx, del_ne na, upd_ne na, upd_ne nx]
      exact h1
theorem mk_both (h : ta σ H fun vs H1 => ∃ v u d e, vs = [v, u] ∧ Dt H1 v d ∧ cpyTo n d ∧ Dt H1 u e ∧ cpyTo n e ∧ ∀ dx H', Rsd2 H1 H' dx f g d e → Q (.ref C) (some dx) H')
    (mono : ∀ {σ : L2.St} {H : Hp} {R S : List V → Hp → Prop}, (∀ vs H1, R vs H1 → S vs H1) → ta σ H R → ta σ H S) : tMkO C (spInitB C f g n) [] ta σ H Q := by
  refine mono (fun vs H1 hh => ?_) h
  obtain ⟨v, u, d, e, rfl, hd, ⟨c1, c2⟩, he, ⟨c3, c4⟩, q⟩ := hh
  refine ⟨by show 2 ≤ 1000; decide, fun a ha => ⟨a, v, u, d, e, rfl, Dt.ex (Ex.new ha) hd, c1, c2, Dt.ex (Ex.new ha) he, c3, c4, upd_same, fun v' H' dx e1 hv hx ne u' H2 e2 hu => ⟨rfl, dx, [(g, u'), (f, v')], ?_, upd_same, ?_, ?_⟩⟩⟩
  · rw [upd_ne ne.symm]
    exact e2 _ _ upd_same
  · cases z : H1 dx with
    | none => rfl
    | some o => rw [e1 dx o (by rw [upd_ne ne]; exact z)] at hx; cases hx
  · have z1 : H1 dx = none := by
      cases z : H1 dx with
      | none => rfl
      | some o => rw [e1 dx o (by rw [upd_ne ne]; exact z)] at hx; cases hx
    have up : ∀ b o, b ≠ a → b ≠ dx → H' b = some o → H2 b = some o := fun b o na nx hb => e2 b o (by rw [upd_ne na, upd_ne nx]; exact hb)
    refine q dx _ ⟨z1, fun b o hb => ?_, v', u', upd_same, Dt.ex (fun b o hb => ?_) hv, Dt.ex (fun b o hb => ?_) hu⟩
    · have na : b ≠ a := ne_of_none hb ha
      have nx : b ≠ dx := ne_of_none hb z1
      rw [upd_ne nx, del_ne na, upd_ne nx]
      exact up b o na nx (e1 b o (by rw [upd_ne na]; exact hb))
    · obtain ⟨zb, h1⟩ := dif_get hb
      have na : b ≠ a := fun q => by rw [q, upd_same] at zb; cases zb
      have nx : b ≠ dx := ne_of_none h1 hx
      rw [upd_ne nx, del_ne na, upd_ne nx]
      exact up b o na nx h1
    · obtain ⟨zb, h1⟩ := dif_get hb
      have na : b ≠ a := fun q => by rw [q, upd_same] at zb; cases zb
      have nx : b ≠ dx := fun q => by rw [q, upd_ne ne, upd_same] at zb; cases zb
      rw [upd_ne nx, del_ne na, upd_ne nx]
      exact h1
end
end Cr
/-! the order of texts and of pairs of texts; sorted of data -/
namespace Cr
open PySem PySem.Spec PyProof.Rows L2 Evl
/-! ### texts -/
def leS (x y : Str) : Bool := decide (x.cps.toList ≤ y.cps.toList)
def ltS (x y : Str) : Prop := x.cps.toList < y.cps.toList
theorem leS_trans (x y z : Str) (h1 : leS x y = true) (h2 : leS y z = true) : leS x z = true := decide_eq_true (List.le_trans (of_decide_eq_true h1) (of_decide_eq_true h2))
theorem leS_total (x y : Str) : (leS x y || leS y x) = true := by
  rcases List.le_total (x.cps.toList) (y.cps.toList) with h | h
  · rw [show leS x y = true from decide_eq_true h, Bool.true_or]
  · rw [show leS y x = true from decide_eq_true h, Bool.or_true]
theorem leS_anti {x y : Str} (h1 : leS x y = true) (h2 : leS y x = true) : x = y := PySem.W.str_of_cps (List.le_antisymm (of_decide_eq_true h1) (of_decide_eq_true h2))
theorem ltS_irrefl (x : Str) : ¬ ltS x x := List.lt_irrefl _
theorem ltS_trans {x y z : Str} (h1 : ltS x y) (h2 : ltS y z) : ltS x z := List.lt_trans h1 h2
theorem leS_ltS {x y : Str} (h : leS x y = true) (n : x ≠ y) : ltS x y := by
  rcases List.le_iff_lt_or_eq.mp (of_decide_eq_true h) with z | z
  · exact z
  · exact absurd (PySem.W.str_of_cps z) n
/-- a list of texts, sorted -/
def srtS (xs : List Str) : List Str := xs.mergeSort leS
theorem srtS_perm (xs : List Str) : (srtS xs).Perm xs := List.mergeSort_perm _ _
theorem srtS_le (xs : List Str) : (srtS xs).Pairwise (fun x y => leS x y = true) := List.pairwise_mergeSort leS_trans leS_total xs
theorem srtS_lt {xs : List Str} (h : xs.Nodup) : (srtS xs).Pairwise ltS := by
  have nd : (srtS xs).Nodup := (srtS_perm xs).nodup_iff.mpr h
  have a := srtS_le xs
  rw [List.Nodup] at nd
  exact (a.and nd).imp fun ⟨h1, h2⟩ => leS_ltS h1 h2
/-- two lists that rise strictly and have the same items are the same -/
theorem rise_eq {α : Type} {lt : α → α → Prop} (ir : ∀ x, ¬ lt x x) (tr : ∀ {x y z}, lt x y → lt y z → lt x z) : ∀ {xs ys : List α}, xs.Pairwise lt → ys.Pairwise lt → (∀ a, a ∈ xs ↔ a ∈ ys) → xs = ys
  | [], [], _, _, _ => rfl
  | [], y :: ys, _, _, h => absurd ((h y).mpr List.mem_cons_self) (by simp)
  | x :: xs, [], _, _, h => absurd ((h x).mp List.mem_cons_self) (by simp)
  | x :: xs, y :: ys, h1, h2, h => by
    rw [List.pairwise_cons] at h1 h2
    have e : x = y := by
      rcases List.mem_cons.mp ((h x).mp List.mem_cons_self) with e | m
      · exact e
      · rcases List.mem_cons.mp ((h y).mpr List.mem_cons_self) with e | m2
        · exact e.symm
        · exact absurd (tr (h1.1 y m2) (h2.1 x m)) (ir x)
    subst e
    rw [rise_eq ir tr h1.2 h2.2 fun a => ?_]
    constructor
    · intro m
      rcases List.mem_cons.mp ((h a).mp (List.mem_cons_of_mem _ m)) with e | m2
      · subst e; exact absurd (h1.1 a m) (ir a)
      · exact m2
    · intro m
      rcases List.mem_cons.mp ((h a).mpr (List.mem_cons_of_mem _ m)) with e | m2
      · subst e; exact absurd (h2.1 a m) (ir a)
      · exact m2
theorem srt_uniq {xs ys : List Str} (p : ys.Perm xs) (s : ys.Pairwise (fun x y => leS x y = true)) : ys = srtS xs :=
  (p.trans (srtS_perm xs).symm).eq_of_pairwise (fun _ _ _ _ => leS_anti) s (srtS_le xs)
theorem sorted_le : ∀ {xs : List Str}, sortedS xs = true → xs.Pairwise (fun x y => leS x y = true) := by
  have lt_le : ∀ {x y : Str}, (!ltCps y.cps.toList x.cps.toList) = true → leS x y = true := fun {x y} h => by
    rw [Bool.not_eq_true'] at h
    refine decide_eq_true (List.not_lt.mp fun z => ?_)
    have : ltCps y.cps.toList x.cps.toList = true := by rw [ltCps_eq]; exact decide_eq_true z
    rw [h] at this
    cases this
  have go : ∀ (xs : List Str) (p : Str), risingS p xs = true → (∀ x ∈ xs, leS p x = true) ∧ xs.Pairwise (fun x y => leS x y = true) := by
    intro xs
    induction xs with
    | nil => intro p _; exact ⟨by simp, .nil⟩
    | cons x r ih =>
      intro p h
      rw [risingS, Bool.and_eq_true] at h
      obtain ⟨a, b⟩ := ih x h.2
      have px := lt_le h.1
      refine ⟨fun y hy => ?_, List.pairwise_cons.mpr ⟨a, b⟩⟩
      rcases List.mem_cons.mp hy with rfl | hy
      · exact px
      · exact leS_trans _ _ _ px (a y hy)
  intro xs h
  cases xs with
  | nil => exact .nil
  | cons x r => exact List.pairwise_cons.mpr (go r x h)
theorem sorted_is {xs ys : List Str} (p : ys.Perm xs) (s : sortedS ys = true) : ys = srtS xs := srt_uniq p (sorted_le s)
/-! ### pairs of texts -/
abbrev Pr := Str × Str
def pD (p : Pr) : PyData := .tuple [.str p.1, .str p.2]
def ltP2 (p q : Pr) : Prop := ltS p.1 q.1 ∨ (p.1 = q.1 ∧ ltS p.2 q.2)
theorem ltP2_irrefl (p : Pr) : ¬ ltP2 p p := by
  rintro (h | ⟨_, h⟩)
  · exact ltS_irrefl _ h
  · exact ltS_irrefl _ h
theorem ltP2_trans {p q r : Pr} (h1 : ltP2 p q) (h2 : ltP2 q r) : ltP2 p r := by
  rcases h1 with h1 | ⟨e1, h1⟩
  · rcases h2 with h2 | ⟨e2, h2⟩
    · exact .inl (ltS_trans h1 h2)
    · exact .inl (e2 ▸ h1)
  · rcases h2 with h2 | ⟨e2, h2⟩
    · exact .inl (e1 ▸ h2)
    · exact .inr ⟨e1.trans e2, ltS_trans h1 h2⟩
def leP (p q : Pr) : Bool := !PySem.W.dataLt (pD q) (pD p)
theorem lt_pD (p q : Pr) : PySem.W.dataLt (pD p) (pD q) = true ↔ ltP2 p q := by
  unfold pD
  rw [PySem.W.dataLt_pair rfl rfl]
  have e1 : PyData.eqv (.str p.1) (.str q.1) = decide (p.1 = q.1) := by rw [PyData.eqv]; rfl
  have e2 : PyData.eqv (.str p.2) (.str q.2) = decide (p.2 = q.2) := by rw [PyData.eqv]; rfl
  rw [e1, e2, PySem.W.dataLt_str, PySem.W.dataLt_str]
  unfold ltP2 ltS
  by_cases h1 : p.1 = q.1
  · rw [if_pos (decide_eq_true h1)]
    by_cases h2 : p.2 = q.2
    · rw [if_pos (decide_eq_true h2)]
      constructor
      · intro z; cases z
      · rintro (z | ⟨_, z⟩)
        · rw [h1] at z; exact absurd z (List.lt_irrefl _)
        · rw [h2] at z; exact absurd z (List.lt_irrefl _)
    · rw [if_neg (by simpa using h2), decide_eq_true_eq]
      constructor
      · exact fun z => .inr ⟨h1, z⟩
      · rintro (z | ⟨_, z⟩)
        · rw [h1] at z; exact absurd z (List.lt_irrefl _)
        · exact z
  · rw [if_neg (by simpa using h1), decide_eq_true_eq]
    constructor
    · exact fun z => .inl z
    · rintro (z | ⟨e, _⟩)
      · exact z
      · exact absurd e h1
theorem leP_iff {p q : Pr} : leP p q = true ↔ ¬ ltP2 q p := by
  unfold leP
  rw [Bool.not_eq_true', Bool.eq_false_iff, Ne, lt_pD]
theorem ltP2_tri (p q : Pr) : ltP2 p q ∨ p = q ∨ ltP2 q p := by
  have t : ∀ x y : Str, ltS x y ∨ x = y ∨ ltS y x := fun x y => by
    by_cases e : x = y
    · exact .inr (.inl e)
    · have := leS_total x y
      rw [Bool.or_eq_true] at this
      rcases this with h | h
      · exact .inl (leS_ltS h e)
      · exact .inr (.inr (leS_ltS h fun z => e z.symm))
  rcases t p.1 q.1 with h | h | h
  · exact .inl (.inl h)
  · rcases t p.2 q.2 with k | k | k
    · exact .inl (.inr ⟨h, k⟩)
    · exact .inr (.inl (Prod.ext h k))
    · exact .inr (.inr (.inr ⟨h.symm, k⟩))
  · exact .inr (.inr (.inl h))
theorem leP_total (p q : Pr) : (leP p q || leP q p) = true := by
  rw [Bool.or_eq_true, leP_iff, leP_iff]
  by_cases h : ltP2 q p
  · exact .inr fun z => ltP2_irrefl p (ltP2_trans z h)
  · exact .inl h
theorem leP_trans (p q r : Pr) (h1 : leP p q = true) (h2 : leP q r = true) : leP p r = true := by
  rw [leP_iff] at h1 h2 ⊢
  intro z
  rcases ltP2_tri p q with a | a | a
  · exact h2 (ltP2_trans z a)
  · subst a; exact h2 z
  · exact h1 a
/-- a list of pairs, sorted -/
def srtP (ps : List Pr) : List Pr := ps.mergeSort leP
theorem srtP_perm (ps : List Pr) : (srtP ps).Perm ps := List.mergeSort_perm _ _
theorem srtP_lt {ps : List Pr} (h : ps.Nodup) : (srtP ps).Pairwise ltP2 := by
  have nd : (srtP ps).Nodup := (srtP_perm ps).nodup_iff.mpr h
  have a : (srtP ps).Pairwise (fun x y => leP x y = true) := List.pairwise_mergeSort leP_trans leP_total ps
  rw [List.Nodup] at nd
  refine (a.and nd).imp fun {p q} ⟨h1, h2⟩ => ?_
  rcases ltP2_tri p q with z | z | z
  · exact z
  · exact absurd z h2
  · exact absurd z (leP_iff.mp h1)
theorem srtP_map (ps : List Pr) : (ps.map pD).mergeSort (PySem.W.dataLe false id) = (srtP ps).map pD :=
  (List.map_mergeSort (f := pD) (r := leP) (s := PySem.W.dataLe false id) fun _ _ _ _ => rfl).symm
theorem srtP_is {ps qs : List Pr} (h1 : qs.Pairwise ltP2) (h2 : ps.Nodup) (h : ∀ a, a ∈ qs ↔ a ∈ ps) : srtP ps = qs :=
  rise_eq ltP2_irrefl ltP2_trans (srtP_lt h2) h1 fun a => ((srtP_perm ps).mem_iff).trans (h a).symm
/-! ### sorted of data -/
def rSortDt : List V → Hp → VK → Prop := fun vs H Q => ∃ (a : Addr) (xs : List V) (ds : List PyData), vs = [.ref a] ∧ H a = some (.lst xs) ∧ DtAll H xs ds ∧ PySem.W.AllAlike ds ∧ PySem.W.Sortable ds ∧ (∀ d ∈ ds, d.depth ≤ 5) ∧
  ∀ ys p, H p = none → DtAll H ys (ds.mergeSort (PySem.W.dataLe false id)) → Q (.ref p) (upd H p (.lst ys))
theorem dtAll_zip {H : Hp} : ∀ {xs : List V} {ds : List PyData}, DtAll H xs ds → (∀ b ∈ xs.zip ds, Dt H b.1 b.2) ∧ (xs.zip ds).map (·.2) = ds ∧ (xs.zip ds).map (·.1) = xs
  | _, _, .nil => ⟨by simp, rfl, rfl⟩
  | _, _, .cons a b => by
    obtain ⟨h1, h2, h3⟩ := dtAll_zip b
    refine ⟨fun x hx => ?_, by rw [List.zip_cons_cons, List.map_cons, h2], by rw [List.zip_cons_cons, List.map_cons, h3]⟩
    rw [List.zip_cons_cons] at hx
    rcases List.mem_cons.mp hx with rfl | hx
    · exact a
    · exact h1 x hx
theorem dtAll_of {H : Hp} : ∀ {bs : List (V × PyData)}, (∀ b ∈ bs, Dt H b.1 b.2) → DtAll H (bs.map (·.1)) (bs.map (·.2))
  | [], _ => .nil
  | b :: r, h => .cons (h b List.mem_cons_self) (dtAll_of fun x hx => h x (List.mem_cons_of_mem _ hx))
theorem each_vals {bs : List (V × PyData)} : ∀ {out : List Value}, PySem.W.EachIs (fun v (b : V × PyData) => RelV b.1 v) out bs → Vals (bs.map (·.1)) out
  | _, .nil => .nil
  | _, .cons h t => .cons h (each_vals t)
section
variable {X : Cx}
theorem call_sortDt (hu : X.A.units + 64 < cLine) : CallR X (.builtin "sorted") rSortDt := by
  intro pins s σ H vs us Q I r h
  obtain ⟨a, xs, ds, rfl, ha, hx, al, so, dp, q⟩ := h
  obtain ⟨its, rv, hl, hz⟩ := I.list (.inl (.inl ha))
  obtain ⟨u, rfl, ru⟩ := vals1 r
  obtain rfl : u = Value.ref a := ru
  obtain ⟨z1, z2, z3⟩ := dtAll_zip hx
  have each : ∀ {xs : List V} {ds : List PyData} {us : List Value}, DtAll H xs ds → Vals xs us → PySem.W.EachIs (fun v (b : V × PyData) => RelV b.1 v) us (xs.zip ds) ∧ PySem.W.EachIs (fun v (b : V × PyData) => ∃ as, Reads s.heap v b.2 as) us (xs.zip ds) := by
    intro xs ds us h
    induction xs generalizing ds us with
    | nil => intro r; cases h; cases r; exact ⟨.nil, .nil⟩
    | cons x xs ih =>
      intro r
      cases h with
      | cons h1 h2 =>
        cases r with
        | cons r1 r2 =>
          obtain ⟨e1, e2⟩ := ih h2 r2
          exact ⟨.cons r1 e1, .cons (Dt.shown I h1 r1).1 e2⟩
  obtain ⟨e1, e2⟩ := each hx rv
  refine PySem.W.sorted_data (R := fun v (b : V × PyData) => RelV b.1 v) (enc := fun b => b.2) hl.isList e1 e2 (by rw [z2]; exact al) (by rw [z2]; exact so) ?_ (fun b hb => ?_) fun out lo eo => ?_
  · have l1 := congrArg List.length z3
    rw [List.length_map] at l1
    rw [l1]
    exact hz
  · have m : b.2 ∈ ds := by rw [← z2]; exact List.mem_map_of_mem hb
    have := dp _ m
    omega
  · have perm := List.mergeSort_perm (xs.zip ds) (PySem.W.dataLe false fun b => b.2)
    have dt : DtAll H (((xs.zip ds).mergeSort (PySem.W.dataLe false fun b => b.2)).map (·.1)) (((xs.zip ds).mergeSort (PySem.W.dataLe false fun b => b.2)).map (·.2)) := dtAll_of fun b hb => z1 b (perm.mem_iff.mp hb)
    have em : ((xs.zip ds).mergeSort (PySem.W.dataLe false fun b => b.2)).map (·.2) = ds.mergeSort (PySem.W.dataLe false id) := by
      have := List.map_mergeSort (l := xs.zip ds) (f := fun b : V × PyData => b.2) (r := PySem.W.dataLe false fun b => b.2) (s := PySem.W.dataLe false id) fun _ _ _ _ => rfl
      rw [this, z2]
    rw [em] at dt
    obtain ⟨ep, he'⟩ := PyProof.Rows.sortedAll_at s.heap its out.toArray
    have vo := each_vals eo
    have lz : (((xs.zip ds).mergeSort (PySem.W.dataLe false fun b => b.2)).map (·.1)).length ≤ sizeLine := by
      have l1 := congrArg List.length z3
      rw [List.length_map] at l1
      rw [List.length_map, List.length_mergeSort, l1]
      exact hz
    exact ⟨.ref _, upd H (s.heap.objs.size + 1) (.lst _), I.laid (t' := s.toks) (fun _ _ => PyProof.Rows.sortedAll_old) (Nat.le_succ _) ⟨lz, out, ep, vo, he'⟩, rfl, q _ _ (I.hok.fresh (Nat.le_succ _)) dt⟩
end
end Cr
/-! except with two classes; a caught error handed to a def -/
/-! == and in, of data of any kind -/
namespace Cr
open PySem PySem.Spec PyProof.Rows L2 Evl
section
variable {X : Cx}
def rEqDt : R2 := fun x y H Q => ∃ d e, Dt H x d ∧ Dt H y e ∧ SeqAt.shaped d = true ∧ SeqAt.shaped e = true ∧ Q (.bl (PyData.eqv d e)) H
theorem op_eqDt (hu : X.A.units + 64 < cLine) : OpR X (compareOp .Eq) rEqDt := by
  intro pins s σ H x y v u Q I rx ry h
  obtain ⟨d, e, hd, he, sd, se, q⟩ := h
  obtain ⟨as, r1⟩ := (Dt.shown I hd rx).1
  obtain ⟨bs, r2⟩ := (Dt.shown I he ry).1
  exact SeqAt.compareEq_shaped r1 r2 sd se hu ⟨.bl _, H, I, rfl, q⟩
end
end Cr
/-! Cr: == and != of an own class with its own ==, from both sides -/
namespace Cr
open PySem PySem.Spec PyProof.Rows L2 Evl
section
variable {M : Model} {prog : Program} {w : World} {A : Around} {E : Value → Shared → Prop} {s : Shared} {K : PySem.W.Frag} {x C f : Addr} {ox : Obj} {od : Option Obj} {y : Value}
theorem ifBoundNe {args : List Value} {Q : Option Value → Shared → Prop} (X : K.In s.heap) (I : PySem.W.InstAt s.heap x ox C od) (hs : PySem.W.findIn K (.ref C) "__ne__" = some (some (.builtin "object.__ne__")))
    (h : wpAny M A (call (.builtin "object.__ne__") (.ref x :: args)) (fun v => Q (some v)) E s) : wpAny M A (callSpecialIfBound? (.ref x) "__ne__" args) Q E s := by
  simp only [callSpecialIfBound?, bindSpecialIfBound?]
  refine wpAny_holding (wpAny_bind (wpAny_bind (wpAny_bind (I.type.here ((PySem.W.looks_findIn X hs).here ?_)))))
  refine wpAny_bind (wpAny_askSetting (wpAny_ite ?_))
  have fin : wpAny M A (call (.builtin "object.__ne__") ([.ref x] ++ args) >>= fun v => pure (some v)) Q E s := wpAny_bind (wpAny_mono h (fun v s' h' => wpAny_pure h') fun _ _ h' => h')
  split
  · exact wpAny_bind (wpAny_of_eq (F.cmp_object.ne.bind _) (wpAny_pure (by exact fin)))
  · exact wpAny_tryCatch (wpAny_bind (wpAny_of_eq (F.cmp_object.ne.bind _) (wpAny_pure (by exact fin))))
theorem entryNe {Q : Fin → Shared → Prop} (hu : A.units < cLine) (X : K.In s.heap) (I : PySem.W.InstAt s.heap x ox C od) (hs : PySem.W.findIn K (.ref C) "__eq__" = some (some (.ref f))) (hf : PySem.W.isFn K (.ref f) = true)
    (h : wpAny (model prog w) A (call (.ref f) [.ref x, y]) (fun v s' => ∃ b, v = .bool b ∧ Q (.done (.ret (.bool (!b)))) s') E s) : wpAny (model prog w) A (Builtin.«object.__ne__» ⟨[.ref x, y], []⟩) Q E s := by
  unfold Builtin.«object.__ne__»
  repeat (first
    | with_reducible refine wpAny_cRoomFor hu ?_
    | (refine wpAny_bind (m := callSpecialIfBound? (.ref x) (Str.ofString "__eq__") [y])
        (PySem.W.ifBound_K X I hs hf (wpAny_mono h (fun r s' hr => by
          obtain ⟨b, rfl, hq⟩ := hr
          repeat (first | exact hq | exact wpAny_pure hq | exact wpAny_truthy_bool hq | (refine wpAny_bind (m := truthy (.bool _)) (wpAny_truthy_bool ?_)) | wp_step)) fun _ _ e => e)))
    | wp_step)
theorem tryNe {Q : Option Value → Shared → Prop} (hu : A.units + 1 < cLine) (X : K.In s.heap) (I : PySem.W.InstAt s.heap x ox C od) (hs : PySem.W.findIn K (.ref C) "__eq__" = some (some (.ref f))) (hf : PySem.W.isFn K (.ref f) = true)
    (hn : PySem.W.findIn K (.ref C) "__ne__" = some (some (.builtin "object.__ne__"))) (hm : PySem.W.mroIn K C (.type "object") = some true)
    (h : wpAny (model prog w) A.in1 (call (.ref f) [.ref x, y]) (fun v s' => ∃ b, v = .bool b ∧ Q (some (.bool (!b))) s') E s) : wpAny (model prog w) A (tryCompare (.ref x) "__ne__" y) Q E s := by
  unfold tryCompare
  refine wpAny_bind (ifBoundNe X I hn (wpAny_call (codeAny_call_builtin F.cmp_object.ne.plain F.cmpEntry_ne (PySem.W.check_slot F.cmpKind_ne F.cmpSplit_ne (I.type.andThen (PySem.W.looks_mroIn X hm)) (F.cmpArgs_ne _ _)
    (entryNe (A := A.in1) hu X I hs hf (wpAny_mono h (fun v s' hv => ?_) fun _ _ e => e))))))
  obtain ⟨b, rfl, hq⟩ := hv
  exact ⟨b, rfl, wpAny_pure hq⟩
end
end Cr
/-! Cr: the comparison itself, own object at the left or at the right -/
namespace Cr
open PySem PySem.Spec PyProof.Rows L2 Evl
section
variable {M : Model} {prog : Program} {w : World} {A : Around} {E : Value → Shared → Prop} {s : Shared} {K : PySem.W.Frag} {x C f : Addr} {ox : Obj} {od : Option Obj} {y tb : Value} {T : String}
theorem rcNeL {Q : Value → Shared → Prop} (hu : A.units + 1 < cLine) (X : K.In s.heap) (I : PySem.W.InstAt s.heap x ox C od) (hb : PySem.W.Looks (model prog w) s.heap (typeOf y) tb) (hnf : PySem.W.notFirst K C tb = true)
    (hs : PySem.W.findIn K (.ref C) "__eq__" = some (some (.ref f))) (hf : PySem.W.isFn K (.ref f) = true) (hn : PySem.W.findIn K (.ref C) "__ne__" = some (some (.builtin "object.__ne__"))) (hm : PySem.W.mroIn K C (.type "object") = some true)
    (h : wpAny (model prog w) A.in1 (call (.ref f) [.ref x, y]) (fun v s' => ∃ b, v = .bool b ∧ Q (.bool (!b)) s') E s) : wpAny (model prog w) A (richCompare .NotEq (.ref x) y) Q E s := by
  have one : wpAny (model prog w) A (tryCompare (.ref x) "__ne__" y) (fun r s' => ∃ v, r = some v ∧ Q v s') E s :=
    tryNe hu X I hs hf hn hm (wpAny_mono h (fun v s' hv => by obtain ⟨b, rfl, hq⟩ := hv; exact ⟨b, rfl, _, rfl, hq⟩) fun _ _ e => e)
  unfold richCompare
  simp only [oneThing_ref]
  refine wpAny_holding (wpAny_bind (wpAny_cRoomFor (by omega) ?_))
  refine wpAny_bind (I.type.here (wpAny_bind (hb.here ?_)))
  split
  · rename_i q
    have e : PySem.W.subIn K tb (.ref C) = some false := by
      rcases Bool.or_eq_true_iff.mp hnf with e | e
      · rw [beq_iff_eq.mp e] at q; simp at q
      · exact beq_iff_eq.mp e
    refine wpAny_bind ((PySem.W.looks_subIn X e).here ?_)
    simp only [Bool.false_eq_true, if_false]
    refine wpAny_bind (wpAny_mono one (fun r s' z => ?_) fun _ _ e => e)
    obtain ⟨v, rfl, hq⟩ := z
    exact wpAny_pure hq
  · refine wpAny_bind (wpAny_pure ?_)
    simp only [Bool.false_eq_true, if_false]
    refine wpAny_bind (wpAny_mono one (fun r s' z => ?_) fun _ _ e => e)
    obtain ⟨v, rfl, hq⟩ := z
    exact wpAny_pure hq
theorem rcNeR {Q : Value → Shared → Prop} (hu : A.units + 1 < cLine) (X : K.In s.heap) (I : PySem.W.InstAt s.heap x ox C od) (hT : s.TypeIs y T) (hsub : PySem.W.subIn K (.ref C) (.type T) = some false)
    (hd : wpAny (model prog w) A (tryCompare y "__ne__" (.ref x)) (fun r s' => r = none ∧ s' = s) E s)
    (hs : PySem.W.findIn K (.ref C) "__eq__" = some (some (.ref f))) (hf : PySem.W.isFn K (.ref f) = true) (hn : PySem.W.findIn K (.ref C) "__ne__" = some (some (.builtin "object.__ne__"))) (hm : PySem.W.mroIn K C (.type "object") = some true)
    (h : wpAny (model prog w) A.in1 (call (.ref f) [.ref x, y]) (fun v s' => ∃ b, v = .bool b ∧ Q (.bool (!b)) s') E s) : wpAny (model prog w) A (richCompare .NotEq y (.ref x)) Q E s := by
  have one : wpAny (model prog w) A (tryCompare (.ref x) "__ne__" y) (fun r s' => ∃ v, r = some v ∧ Q v s') E s :=
    tryNe hu X I hs hf hn hm (wpAny_mono h (fun v s' hv => by obtain ⟨b, rfl, hq⟩ := hv; exact ⟨b, rfl, _, rfl, hq⟩) fun _ _ e => e)
  simp only [richCompare, cmpInfo, hT.oneThing_none]
  refine wpAny_holding (wpAny_bind (wpAny_cRoomFor (by omega) ?_))
  refine wpAny_bind (wpAny_typeOf hT ?_)
  refine wpAny_bind (I.type.here ?_)
  split
  · refine wpAny_bind ((PySem.W.looks_subIn X hsub).here ?_)
    simp only [Bool.false_eq_true, if_false, Bool.not_false, if_true]
    refine wpAny_bind (m := tryCompare y _ (.ref x)) (wpAny_mono hd (fun r s1 z => ?_) fun _ _ e => e)
    obtain ⟨rfl, rfl⟩ := z
    refine wpAny_bind (m := tryCompare (.ref x) _ y) (wpAny_mono one (fun r s2 z => ?_) fun _ _ e => e)
    obtain ⟨v, rfl, hq⟩ := z
    exact wpAny_pure hq
  · rename_i q
    exact absurd (by simp) q
/-! ### the built-in side declines -/
abbrev Decl (prog : Program) (w : World) (A : Around) (E : Value → Shared → Prop) (s : Shared) (y : Value) (nm : Str) (x : Addr) : Prop := wpAny (model prog w) A (tryCompare y nm (.ref x)) (fun r s' => r = none ∧ s' = s) E s
theorem declNone_eq : Decl prog w A E s .none "__eq__" x := wpAny_tryCompare_declines (show s.TypeIs .none "NoneType" from rfl) F.slot_NoneType_eq_refl (call_gives F.slot_NoneType_eq_refl rfl F.entry_NoneType_eq (F.args_NoneType_eq_2 _ _) (SeqAt.NoneType___eq___none_ref_0 x) ⟨rfl, rfl, rfl⟩)
theorem declNone_ne : Decl prog w A E s .none "__ne__" x := wpAny_tryCompare_declines (show s.TypeIs .none "NoneType" from rfl) F.slot_NoneType_ne (call_gives F.slot_NoneType_ne rfl F.entry_NoneType_ne (F.args_NoneType_ne_2 _ _) (SeqAt.NoneType___ne___none_ref_0 x) ⟨rfl, rfl, rfl⟩)
theorem isInstNo {R : Bool → Shared → Prop} (X : K.In s.heap) (I : PySem.W.InstAt s.heap x ox C od) (hsub : PySem.W.subIn K (.ref C) (.type T) = some false) (h : R false s) : wpAny M A (isInstance (.ref x) (.type T)) R E s := by
  unfold isInstance
  exact wpAny_bind (I.type.here ((PySem.W.looks_subIn X hsub).here h))
variable {l : Addr}
theorem declInt_eq {i : Int} {t : Tok} {dx : Addr} (hx : s.heap.get? x = some (PySem.W.instObj C dx)) : Decl prog w A E s (.int i t) "__eq__" x := by
  refine wpAny_tryCompare_declines (typeIs_int s i t) F.slot_int_eq (wpAny_call_entry F.slot_int_eq (typeIs_int s i t) F.entry_int_eq ?_ (F.args_int_eq_2 _ _))
  show wpAny _ _ (Builtin.Int.intBinary "__eq__" (fun x y => ret (.bool (x == y))) false ⟨[.int i t, .ref x], []⟩) _ _ s
  unfold Builtin.Int.intBinary
  repeat (first | with_reducible refine wpAny_load hx ?_ | wp_step)
  exact ⟨_, rfl, rfl, rfl, rfl⟩
theorem declStr_eq {z : Str} {t : Tok} {dx : Addr} (hx : s.heap.get? x = some (PySem.W.instObj C dx)) : Decl prog w A E s (.str z t) "__eq__" x := by
  refine wpAny_tryCompare_declines (typeIs_str s z t) F.slot_str_eq (wpAny_call_entry F.slot_str_eq (typeIs_str s z t) F.entry_str_eq ?_ (F.args_str_eq_2 _ _))
  show wpAny _ _ (Builtin.Str.strCompare "__eq__" _ ⟨[.str z t, .ref x], []⟩) _ _ s
  unfold Builtin.Str.strCompare Builtin.Str.strSlot
  repeat (first | with_reducible refine wpAny_load hx ?_ | wp_step)
  exact ⟨_, rfl, rfl, rfl, rfl⟩
theorem declLst_eq (hT : s.TypeIs (.ref l) "list") (X : K.In s.heap) (I : PySem.W.InstAt s.heap x ox C od) (hsub : PySem.W.subIn K (.ref C) (.type "list") = some false) : Decl prog w A E s (.ref l) "__eq__" x := by
  refine wpAny_tryCompare_declines hT F.slot_list_eq (wpAny_call_entry F.slot_list_eq hT F.entry_list_eq ?_ (F.args_list_eq_2 _ _))
  show wpAny _ _ (slotArgs "__eq__" 1 ⟨[.ref l, .ref x], []⟩ >>= _) _ _ s
  repeat (first | with_reducible refine isInstNo X I hsub ?_ | wp_step)
  exact ⟨_, rfl, rfl, rfl, rfl⟩
theorem declTup_eq (hT : s.TypeIs (.ref l) "tuple") (X : K.In s.heap) (I : PySem.W.InstAt s.heap x ox C od) (hsub : PySem.W.subIn K (.ref C) (.type "tuple") = some false) : Decl prog w A E s (.ref l) "__eq__" x := by
  refine wpAny_tryCompare_declines hT F.slot_tuple_eq (wpAny_call_entry F.slot_tuple_eq hT F.entry_tuple_eq ?_ (F.args_tuple_eq_2 _ _))
  show wpAny _ _ (slotArgs "__eq__" 1 ⟨[.ref l, .ref x], []⟩ >>= _) _ _ s
  repeat (first | with_reducible refine isInstNo X I hsub ?_ | wp_step)
  exact ⟨_, rfl, rfl, rfl, rfl⟩
theorem declDct_eq (hT : s.TypeIs (.ref l) "dict") (X : K.In s.heap) (I : PySem.W.InstAt s.heap x ox C od) (hsub : PySem.W.subIn K (.ref C) (.type "dict") = some false) : Decl prog w A E s (.ref l) "__eq__" x := by
  refine wpAny_tryCompare_declines hT F.slot_dict_eq (wpAny_call_entry F.slot_dict_eq hT F.entry_dict_eq ?_ (F.args_dict_eq_2 _ _))
  show wpAny _ _ (Builtin.Dict.dictSlotArgs "__eq__" ⟨[.ref l, .ref x], []⟩ >>= _) _ _ s
  refine wpAny_bind ?_
  unfold Builtin.Dict.dictSlotArgs
  refine wpAny_bind (wpAny_notOrdered_dict hT ?_)
  repeat (first | with_reducible refine isInstNo X I hsub ?_ | wp_step)
  exact ⟨_, rfl, rfl, rfl, rfl⟩
theorem declInt_ne {i : Int} {t : Tok} {dx : Addr} (hx : s.heap.get? x = some (PySem.W.instObj C dx)) : Decl prog w A E s (.int i t) "__ne__" x := by
  refine wpAny_tryCompare_declines (typeIs_int s i t) F.slot_int_ne (wpAny_call_entry F.slot_int_ne (typeIs_int s i t) F.entry_int_ne ?_ (F.args_int_ne_2 _ _))
  show wpAny _ _ (Builtin.Int.intBinary "__ne__" (fun x y => ret (.bool (x != y))) false ⟨[.int i t, .ref x], []⟩) _ _ s
  unfold Builtin.Int.intBinary
  repeat (first | with_reducible refine wpAny_load hx ?_ | wp_step)
  exact ⟨_, rfl, rfl, rfl, rfl⟩
theorem declStr_ne {z : Str} {t : Tok} {dx : Addr} (hx : s.heap.get? x = some (PySem.W.instObj C dx)) : Decl prog w A E s (.str z t) "__ne__" x := by
  refine wpAny_tryCompare_declines (typeIs_str s z t) F.slot_str_ne (wpAny_call_entry F.slot_str_ne (typeIs_str s z t) F.entry_str_ne ?_ (F.args_str_ne_2 _ _))
  show wpAny _ _ (Builtin.Str.strCompare "__ne__" _ ⟨[.str z t, .ref x], []⟩) _ _ s
  unfold Builtin.Str.strCompare Builtin.Str.strSlot
  repeat (first | with_reducible refine wpAny_load hx ?_ | wp_step)
  exact ⟨_, rfl, rfl, rfl, rfl⟩
theorem declLst_ne (hT : s.TypeIs (.ref l) "list") (X : K.In s.heap) (I : PySem.W.InstAt s.heap x ox C od) (hsub : PySem.W.subIn K (.ref C) (.type "list") = some false) : Decl prog w A E s (.ref l) "__ne__" x := by
  refine wpAny_tryCompare_declines hT F.slot_list_ne (wpAny_call_entry F.slot_list_ne hT F.entry_list_ne ?_ (F.args_list_ne_2 _ _))
  show wpAny _ _ (slotArgs "__ne__" 1 ⟨[.ref l, .ref x], []⟩ >>= _) _ _ s
  repeat (first | with_reducible refine isInstNo X I hsub ?_ | wp_step)
  exact ⟨_, rfl, rfl, rfl, rfl⟩
theorem declTup_ne (hT : s.TypeIs (.ref l) "tuple") (X : K.In s.heap) (I : PySem.W.InstAt s.heap x ox C od) (hsub : PySem.W.subIn K (.ref C) (.type "tuple") = some false) : Decl prog w A E s (.ref l) "__ne__" x := by
  refine wpAny_tryCompare_declines hT F.slot_tuple_ne (wpAny_call_entry F.slot_tuple_ne hT F.entry_tuple_ne ?_ (F.args_tuple_ne_2 _ _))
  show wpAny _ _ (slotArgs "__ne__" 1 ⟨[.ref l, .ref x], []⟩ >>= _) _ _ s
  repeat (first | with_reducible refine isInstNo X I hsub ?_ | wp_step)
  exact ⟨_, rfl, rfl, rfl, rfl⟩
theorem declDct_ne (hT : s.TypeIs (.ref l) "dict") (X : K.In s.heap) (I : PySem.W.InstAt s.heap x ox C od) (hsub : PySem.W.subIn K (.ref C) (.type "dict") = some false) : Decl prog w A E s (.ref l) "__ne__" x := by
  refine wpAny_tryCompare_declines hT F.slot_dict_ne (wpAny_call_entry F.slot_dict_ne hT F.entry_dict_ne ?_ (F.args_dict_ne_2 _ _))
  show wpAny _ _ (Builtin.Dict.dictSlotArgs "__ne__" ⟨[.ref l, .ref x], []⟩ >>= _) _ _ s
  refine wpAny_bind ?_
  unfold Builtin.Dict.dictSlotArgs
  refine wpAny_bind (wpAny_notOrdered_dict hT ?_)
  repeat (first | with_reducible refine isInstNo X I hsub ?_ | wp_step)
  exact ⟨_, rfl, rfl, rfl, rfl⟩
end
end Cr
/-! Cr: == and != as expressions, for a class with its own == -/
namespace Cr
open PySem PySem.Spec PyProof.Rows L2 Evl
/-- what the top says of the class -/
structure EqC (K : PySem.W.Frag) (C f : Addr) : Prop where
  eq : PySem.W.findIn K (.ref C) "__eq__" = some (some (.ref f))
  fn : PySem.W.isFn K (.ref f) = true
  ne : PySem.W.findIn K (.ref C) "__ne__" = some (some (.builtin "object.__ne__"))
  ob : PySem.W.mroIn K C (.type "object") = some true
  sn : PySem.W.subIn K (.ref C) (.type "NoneType") = some false
  si : PySem.W.subIn K (.ref C) (.type "int") = some false
  ss : PySem.W.subIn K (.ref C) (.type "str") = some false
  sl : PySem.W.subIn K (.ref C) (.type "list") = some false
  st : PySem.W.subIn K (.ref C) (.type "tuple") = some false
  sd : PySem.W.subIn K (.ref C) (.type "dict") = some false
/-- data at the other side -/
def OthB (H : Hp) : V → Prop
  | .non => True
  | .int _ => True
  | .str _ => True
  | .ref p => (∃ xs, H p = some (.lst xs)) ∨ (∃ xs, H p = some (.tup xs)) ∨ ∃ kvs, H p = some (.dK kvs)
  | _ => False
theorem OthB.ex {H H' : Hp} {y : V} (h : OthB H y) (e : Ex H H') : OthB H' y := by
  cases y with
  | ref p =>
    rcases h with ⟨xs, z⟩ | ⟨xs, z⟩ | ⟨xs, z⟩
    · exact .inl ⟨xs, e _ _ z⟩
    · exact .inr (.inl ⟨xs, e _ _ z⟩)
    · exact .inr (.inr ⟨xs, e _ _ z⟩)
  | _ => exact h
theorem subB {K : PySem.W.Frag} {C : Addr} {T : String} {l : List Value} (e : fastBuiltinMro T = some l) (n : l.contains (.ref C) = false) : PySem.W.subIn K (.type T) (.ref C) = some false := by
  show (fastBuiltinMro T).map (·.contains (.ref C)) = some false
  rw [e]
  show some (l.contains (.ref C)) = some false
  rw [n]
section
variable {X : Cx} {n : Nat} {C f : Addr} {fd : FuncData} {ps : List Str} {sp : Sp} {E : XK} {CX : CXT}
theorem runOwn {A : Around} {pins : List (Addr × Obj)} {σ : L2.St} {H : Hp} {s : Shared} {vs : List V} {us : List Value} {Q : VK} (F : FnOk X.prog X.w X.K X.mg X.base CX n f fd ps sp) (hb : Binds X.K fd ps []) (hx : Passes CX X E) (sb : L2.Sub X n A) (I : Inv X pins σ H s) (r : Vals vs us) (hsp : sp vs H Q E) :
    wpAny (model X.prog X.w) A (call (.ref f) us) (fun v s' => ∃ z H', Inv X pins σ H' s' ∧ RelV z v ∧ Q z H') X.xe s := by
  have e0 : Env0 X.prog X.w X.K X.mg X.base A X.stack s H := by
    have e := I.env0
    exact ⟨by rw [sb.fr]; exact e.frames, e.mod, e.bs, e.bsz, e.funs, e.frf, e.hok, e.bare⟩
  have hl := F.len _ _ _ _ hsp
  refine wpAny_call (codeAny_mono (F.run A X.stack s H ⟨us, []⟩ us vs _ E sb.room e0 (by
    have := hb s us I.kIn (by rw [List.append_nil, ← r.length]; exact hl)
    simpa using this) r hsp) fun r s' hq => ?_)
  cases r with
  | error e => exact hx pins σ H s e s' I hq
  | ok fl =>
    cases fl with
    | ret w =>
      obtain ⟨z, H', I', rz, q⟩ := I.after hq
      exact ⟨z, H', I', rz, q⟩
    | next => exact False.elim hq
    | brk => exact False.elim hq
    | cont => exact False.elim hq
theorem looksT {M : Model} {s : Shared} {u : Value} {T : String} (h : s.TypeIs u T) : PySem.W.Looks M s.heap (typeOf u) (.type T) := by
  cases u with
  | ref a =>
    obtain ⟨o, ho, hc⟩ := h
    exact hc ▸ (PySem.W.Looks.ld ho).andThen .now
  | _ => exact PySem.W.Looks.of_pure h
/-- the type of what stands at the other side, and that it declines -/
theorem othT {pins : List (Addr × Obj)} {σ : L2.St} {H : Hp} {s : Shared} {y : V} {u : Value} (T : EqC X.K C f) (I : Inv X pins σ H s) (r : RelV y u) (h : OthB H y) {A : Around} {Ex' : Value → Shared → Prop} {a dx : Addr} (hx : s.heap.get? a = some (PySem.W.instObj C dx)) {od : Option Obj} (J : PySem.W.InstAt s.heap a (PySem.W.instObj C dx) C od) :
    ∃ N : String, s.TypeIs u N ∧ PySem.W.subIn X.K (.type N) (.ref C) = some false ∧ PySem.W.subIn X.K (.ref C) (.type N) = some false ∧ Decl X.prog X.w A Ex' s u "__eq__" a ∧ Decl X.prog X.w A Ex' s u "__ne__" a := by
  have tyd : ∀ {p : Addr} {N : String}, tyV X.K N (.ref p) H → s.TypeIs (.ref p) N := fun t => (tyV_is I (show RelV (.ref _) (.ref _) from rfl) t).1
  cases y with
  | non =>
    obtain rfl : u = .none := r
    exact ⟨"NoneType", rfl, subB (l := [.type "NoneType", .type "object"]) (by decide +kernel) (by simp), T.sn, declNone_eq, declNone_ne⟩
  | int i =>
    obtain ⟨t, rfl⟩ := r
    exact ⟨"int", typeIs_int s i t, subB (l := [.type "int", .type "object"]) (by decide +kernel) (by simp), T.si, declInt_eq hx, declInt_ne hx⟩
  | str z =>
    obtain ⟨t, rfl⟩ := r
    exact ⟨"str", typeIs_str s z t, subB (l := [.type "str", .type "object"]) (by decide +kernel) (by simp), T.ss, declStr_eq hx, declStr_ne hx⟩
  | ref p =>
    obtain rfl : u = .ref p := r
    rcases h with ⟨xs, z⟩ | ⟨xs, z⟩ | ⟨kvs, z⟩
    · have ty := tyd (N := "list") (.inl ⟨rfl, xs, sq_of z⟩)
      exact ⟨"list", ty, subB (l := [.type "list", .type "object"]) (by decide +kernel) (by simp), T.sl, declLst_eq ty I.kIn J T.sl, declLst_ne ty I.kIn J T.sl⟩
    · have ty : s.TypeIs (.ref p) "tuple" := by
        obtain ⟨_, _, _, o, e⟩ := I.hok p _ z
        exact ⟨_, e.1, e.2.1⟩
      exact ⟨"tuple", ty, subB (l := [.type "tuple", .type "object"]) (by decide +kernel) (by simp), T.st, declTup_eq ty I.kIn J T.st, declTup_ne ty I.kIn J T.st⟩
    · have ty := tyd (N := "dict") (.inr (.inr (.inl ⟨rfl, .inl ⟨kvs, z⟩⟩)))
      exact ⟨"dict", ty, subB (l := [.type "dict", .type "object"]) (by decide +kernel) (by simp), T.sd, declDct_eq ty I.kIn J T.sd, declDct_ne ty I.kIn J T.sd⟩
  | _ => exact False.elim h
def rOwn (C : Addr) (neg : Bool) (sp : Sp) (E : XK) : R2 := fun x y H Q =>
  (∃ a dx fs, x = .ref a ∧ H a = some (.ins C dx fs) ∧ (OthB H y ∨ ∃ b dy gs, y = .ref b ∧ H b = some (.ins C dy gs)) ∧ sp [x, y] H (fun v H' => ∃ r, v = .bl r ∧ Q (.bl (if neg then !r else r)) H') E) ∨
  (∃ a dx fs, y = .ref a ∧ H a = some (.ins C dx fs) ∧ OthB H x ∧ sp [y, x] H (fun v H' => ∃ r, v = .bl r ∧ Q (.bl (if neg then !r else r)) H') E)
theorem insAt {pins : List (Addr × Obj)} {σ : L2.St} {H : Hp} {s : Shared} {a dx : Addr} {fs : List (Str × V)} (I : Inv X pins σ H s) (h : H a = some (.ins C dx fs)) : s.heap.get? a = some (PySem.W.instObj C dx) ∧ ∃ od, PySem.W.InstAt s.heap a (PySem.W.instObj C dx) C od := by
  obtain ⟨mA, O, _⟩ := ins_get I.hok h
  obtain ⟨od, J, _⟩ := O.look
  have e := (show ObjOk X.prog X.w H s.heap a (.ins C dx fs) from I.hok a _ h).2.2.2.1
  have e2 := J.at_
  rw [e] at e2
  cases e2
  exact ⟨e, od, J⟩
theorem op_ownNe (T : EqC X.K C f) (F : FnOk X.prog X.w X.K X.mg X.base CX n f fd ps sp) (hb : Binds X.K fd ps []) (hx : Passes CX X E) (hr : Room (n + 1) X.A) : OpR X (compareOp .NotEq) (rOwn C true sp E) := by
  intro pins s σ H x y v u Q I rx ry h
  show wpAny (model X.prog X.w) X.A (richCompare .NotEq v u) (EP X pins σ Q) X.xe s
  have sb : L2.Sub X n X.A.in1 := L2.Sub.in1 ⟨hr, rfl⟩
  have hu : X.A.units + 1 < cLine := hr.in1.units0
  rcases h with ⟨a, dx, fs, rfl, ha, ho, hsp⟩ | ⟨a, dx, fs, rfl, ha, ho, hsp⟩
  · obtain rfl : v = .ref a := rx
    obtain ⟨e, od, J⟩ := insAt I ha
    obtain ⟨tb, lb, nf⟩ : ∃ tb, PySem.W.Looks (model X.prog X.w) s.heap (typeOf u) tb ∧ PySem.W.notFirst X.K C tb = true := by
      rcases ho with ho | ⟨b, dy, gs, rfl, hb'⟩
      · obtain ⟨N, ty, s1, s2, _⟩ := othT (A := X.A) (Ex' := X.xe) T I ry ho e J
        exact ⟨_, looksT ty, by unfold PySem.W.notFirst; rw [s1]; simp⟩
      · obtain rfl : u = .ref b := ry
        obtain ⟨e2, od2, J2⟩ := insAt I hb'
        exact ⟨_, J2.type, by simp [PySem.W.notFirst]⟩
    refine rcNeL hu I.kIn J lb nf T.eq T.fn T.ne T.ob (wpAny_mono (runOwn F hb hx sb I (.cons (show RelV (.ref a) (.ref a) from rfl) (.cons ry .nil)) hsp) (fun v' s' q => ?_) fun _ _ z => z)
    obtain ⟨z, H', I', rz, r, rfl, q⟩ := q
    obtain rfl : v' = .bool r := rz
    exact ⟨r, rfl, .bl (!r), H', I', rfl, q⟩
  · obtain rfl : u = .ref a := ry
    obtain ⟨e, od, J⟩ := insAt I ha
    obtain ⟨N, ty, s1, s2, d1, d2⟩ := othT (A := X.A) (Ex' := X.xe) T I rx ho e J
    refine rcNeR hu I.kIn J ty s2 d2 T.eq T.fn T.ne T.ob (wpAny_mono (runOwn F hb hx sb I (.cons (show RelV (.ref a) (.ref a) from rfl) (.cons rx .nil)) hsp) (fun v' s' q => ?_) fun _ _ z => z)
    obtain ⟨z, H', I', rz, r, rfl, q⟩ := q
    obtain rfl : v' = .bool r := rz
    exact ⟨r, rfl, .bl (!r), H', I', rfl, q⟩
end
end Cr
/-! == and in, of data of any kind, dicts among them -/
/-! C(..) in a try: what __init__ raises wished for at the caller's slots -/
/-! expressions by the data that they give -/
namespace Cr
open PySem PySem.Spec PyProof.Rows L2 Evl
def EvD (te : TE) (σ : L2.St) (H : Hp) (d : PyData) : Prop := ∀ H1, Ex H H1 → ∀ Q : VK, (∀ v H2, Ex H1 H2 → Dt H2 v d → Q v H2) → te σ H1 Q
def EvDA (ta : TA) (σ : L2.St) (H : Hp) (ds : List PyData) : Prop := ∀ H1, Ex H H1 → ∀ Q : List V → Hp → Prop, (∀ vs H2, Ex H1 H2 → DtAll H2 vs ds → Q vs H2) → ta σ H1 Q
theorem dtAll_mem' {H : Hp} : ∀ {vs : List V} {ds : List PyData} {v : V}, DtAll H vs ds → v ∈ vs → ∃ d ∈ ds, Dt H v d
  | _, _, _, .nil, h => nomatch h
  | _, _, _, .cons a b, h => by
    rcases List.mem_cons.mp h with rfl | h
    · exact ⟨_, List.mem_cons_self, a⟩
    · obtain ⟨d, h1, h2⟩ := dtAll_mem' b h
      exact ⟨d, List.mem_cons_of_mem _ h1, h2⟩
theorem dtAll_len {H : Hp} : ∀ {vs : List V} {ds : List PyData}, DtAll H vs ds → vs.length = ds.length
  | _, _, .nil => rfl
  | _, _, .cons _ b => by rw [List.length_cons, List.length_cons, dtAll_len b]
def rNeDt : R2 := fun x y H Q => ∃ d e, Dt H x d ∧ Dt H y e ∧ SeqAt.shaped d = true ∧ SeqAt.shaped e = true ∧ Q (.bl (!PyData.eqv d e)) H
theorem op_neDt {X : Cx} (hu : X.A.units + 64 < cLine) : OpR X (compareOp .NotEq) rNeDt := by
  intro pins s σ H x y v u Q I rx ry h
  obtain ⟨d, e, hd, he, sd, se, q⟩ := h
  obtain ⟨as, r1⟩ := (Dt.shown I hd rx).1
  obtain ⟨bs, r2⟩ := (Dt.shown I he ry).1
  exact SeqAt.compareNe_shaped r1 r2 sd se hu ⟨.bl _, H, I, rfl, q⟩
section
variable {te : TE} {ta : TA} {σ : L2.St} {H : Hp} {v : V} {d : PyData} {ds : List PyData}
theorem evd_of (h : Ev te σ H v) (hd : Dt H v d) : EvD te σ H d := fun H1 e Q q => h H1 e _ fun H2 e2 => q v H2 e2 (Dt.ex (e.trans e2) hd)
theorem evd_str {x : Str} : EvD (tC (.str x)) σ H (.str x) := evd_of ev_c (.str x)
theorem evd_int {i : Int} : EvD (tC (.int i)) σ H (.int i) := evd_of ev_c (.int i)
theorem evda_nil : EvDA tNil σ H [] := fun H1 e Q q => q [] H1 (Ex.refl H1) .nil
theorem evda_cons (h1 : EvD te σ H d) (h2 : EvDA ta σ H ds) : EvDA (tCons te ta) σ H (d :: ds) := fun H1 e Q q =>
  h1 H1 e _ fun v H2 e2 hv => h2 H2 (e.trans e2) _ fun vs H3 e3 hvs => q (v :: vs) H3 (e2.trans e3) (.cons (Dt.ex e3 hv) hvs)
theorem evd_lst (h : EvDA ta σ H ds) (hl : ds.length ≤ 1000) : EvD (tLst ta) σ H (.list ds) := fun H1 e Q q =>
  h H1 e _ fun vs H2 e2 hvs => ⟨Nat.le_trans (Nat.le_of_eq (dtAll_len hvs)) (Nat.le_trans hl (by decide)), fun l hl' => q (.ref l) _ (e2.trans (Ex.new hl')) (.lst upd_same (DtAll.ex (Ex.new hl') hvs))⟩
theorem evd_tup (h : EvDA ta σ H ds) (hl : ds.length ≤ 1000) : EvD (tTup ta) σ H (.tuple ds) := fun H1 e Q q =>
  h H1 e _ fun vs H2 e2 hvs => ⟨Nat.le_trans (Nat.le_of_eq (dtAll_len hvs)) (Nat.le_trans hl (by decide)), fun l hl' => q (.ref l) _ (e2.trans (Ex.new hl')) (.tup upd_same (DtAll.ex (Ex.new hl') hvs))⟩
theorem dt_lst {H : Hp} {v : V} (h : Dt H v (.list ds)) : ∃ a xs, v = .ref a ∧ H a = some (.lst xs) ∧ DtAll H xs ds := by
  cases h with
  | lst h1 h2 => exact ⟨_, _, rfl, h1, h2⟩
theorem dtAll_app {H : Hp} : ∀ {xs ys : List V} {ds es : List PyData}, DtAll H xs ds → DtAll H ys es → DtAll H (xs ++ ys) (ds ++ es)
  | _, _, _, _, .nil, h => h
  | _, _, _, _, .cons a b, h => .cons a (dtAll_app b h)
end
end Cr
/-! check_name; graphs of needs: what they look like -/
namespace Cr
open PySem PySem.Spec PyProof.Rows L2 Evl
abbrev sCheckN : Stmt := topS 11
theorem scCheckN : FnScope ["value"] ["value"] (defScope sCheckN) := ⟨rfl, rfl, rfl, by decide +kernel, rfl, by decide +kernel, by decide +kernel⟩
def spCheckN (CN : Addr) (n : Nat) : Sp := fun vs H Q E => ∃ v d, vs = [v] ∧ Dt H v d ∧ sm d = true ∧ cpyTo n d ∧ (isName d = true → ∀ H', Ex H H' → Q .non H') ∧ (isName d = false → ∀ dx H', Rsd1 H H' dx "value" d → E (.ref CN) (some dx) H')
/-! ### the graph -/
structure Row where
  s : Str
  a : Addr
  ts : List Str
def kvR (r : Row) : Key × V := (.inr r.s, .ref r.a)
/-- rows in order: the names are of U -/
structure GOk (U : List Str) (g : List Row) : Prop where
  un : ∀ x ∈ U, isNameS x = true
  uf : U.length ≤ 62
  keys : (g.map (·.s)).Nodup
  ads : (g.map (·.a)).Nodup
  nm : ∀ r ∈ g, r.s ∈ U
  ne : ∀ r ∈ g, r.ts ≠ []
  up : ∀ r ∈ g, r.ts.Pairwise ltS
  tn : ∀ r ∈ g, ∀ t ∈ r.ts, t ∈ U
structure NdA where
  dx : Addr
  dd : Addr
structure NdAt (C : Addr) (H : Hp) (x : Addr) (A : NdA) (U : List Str) (g : List Row) : Prop where
  ob : H x = some (.ins C A.dx [("needed", .ref A.dd)])
  di : H A.dd = some (.dK (g.map kvR))
  ls : ∀ r ∈ g, H r.a = some (.lst (r.ts.map V.str))
  ok : GOk U g
def rowOf (g : List Row) (s : Str) : Option Row := g.find? fun r => decide (r.s = s)
def tgS (g : List Row) (s : Str) : List Str := match rowOf g s with | some r => r.ts | none => []
def tgD (g : List Row) : PyData → List Str
  | .str s => tgS g s
  | _ => []
/-- is (d, e) a need -/
def isNd (g : List Row) (d : PyData) : PyData → Bool
  | .str t => decide (t ∈ tgD g d)
  | _ => false
theorem rise_nodup {xs : List Str} (h : xs.Pairwise ltS) : xs.Nodup := by
  rw [List.Nodup]
  exact h.imp fun {a b} z (e : a = b) => ltS_irrefl a (by rw [← e] at z; exact z)
section
variable {C : Addr} {H H' : Hp} {x : Addr} {A : NdA} {U : List Str} {g : List Row}
theorem NdAt.ex (h : NdAt C H x A U g) (e : Ex H H') : NdAt C H' x A U g := ⟨e _ _ h.ob, e _ _ h.di, fun r hr => e _ _ (h.ls r hr), h.ok⟩
theorem NdAt.but {l : List Addr} (h : NdAt C H x A U g) (e : But l H H') (h1 : x ∉ l) (h2 : A.dd ∉ l) (h3 : ∀ r ∈ g, r.a ∉ l) : NdAt C H' x A U g := ⟨e _ _ h1 h.ob, e _ _ h2 h.di, fun r hr => e _ _ (h3 r hr) (h.ls r hr), h.ok⟩
theorem rowOf_mem {s : Str} {r : Row} (h : rowOf g s = some r) : r ∈ g ∧ r.s = s := by
  unfold rowOf at h
  have z := List.find?_some h
  exact ⟨List.mem_of_find?_eq_some h, of_decide_eq_true z⟩
theorem rowOf_in {r : Row} (hk : (g.map (·.s)).Nodup) (h : r ∈ g) : rowOf g r.s = some r := by
  induction g with
  | nil => exact nomatch h
  | cons y g ih =>
    rw [List.map_cons, List.nodup_cons] at hk
    unfold rowOf
    rw [List.find?_cons]
    rcases List.mem_cons.mp h with rfl | h
    · rw [decide_eq_true rfl]
    · have n : ¬ y.s = r.s := fun e => hk.1 (by rw [e]; exact List.mem_map_of_mem h)
      rw [decide_eq_false n]
      exact ih hk.2 h
theorem rowOf_none {s : Str} (h : rowOf g s = none) {r : Row} (hr : r ∈ g) : r.s ≠ s := fun e => by
  have := List.find?_eq_none.mp h r hr
  exact this (decide_eq_true e)
theorem val_row (g : List Row) (s : Str) : valV (g.map kvR) (Sum.inr s) = (rowOf g s).map fun r => V.ref r.a := by
  unfold valV rowOf
  rw [List.find?_map, Option.map_map]
  have e : (fun kv : Key × V => decide (kv.1 = Sum.inr s)) ∘ kvR = fun r : Row => decide (r.s = s) := by
    funext r
    show decide ((Sum.inr r.s : Key) = Sum.inr s) = decide (r.s = s)
    exact decide_eq_decide.mpr ⟨fun h => Sum.inr.inj h, fun h => by rw [h]⟩
  rw [e]
  rfl
theorem NdAt.tg (h : NdAt C H x A U g) {s : Str} {r : Row} (hr : rowOf g s = some r) : H r.a = some (.lst ((tgS g s).map V.str)) := by
  have e : tgS g s = r.ts := by unfold tgS; rw [hr]
  rw [e]
  exact h.ls r (rowOf_mem hr).1
theorem GOk.tgU (h : GOk U g) {s t : Str} (m : t ∈ tgS g s) : s ∈ U ∧ t ∈ U := by
  unfold tgS at m
  cases e : rowOf g s with
  | none => rw [e] at m; exact nomatch m
  | some r =>
    rw [e] at m
    obtain ⟨h1, h2⟩ := rowOf_mem e
    exact ⟨h2 ▸ h.nm r h1, h.tn r h1 t m⟩
theorem GOk.up' (h : GOk U g) (s : Str) : (tgS g s).Pairwise ltS := by
  unfold tgS
  cases e : rowOf g s with
  | none => exact .nil
  | some r => exact h.up r (rowOf_mem e).1
theorem sub_len {xs ys : List Str} (nd : xs.Nodup) (h : ∀ x ∈ xs, x ∈ ys) : xs.length ≤ ys.length := pigeon nd h
theorem GOk.fewT (h : GOk U g) (s : Str) : (tgS g s).length ≤ 62 := Nat.le_trans (sub_len (rise_nodup (h.up' s)) fun t m => (h.tgU m).2) h.uf
theorem GOk.fewK (h : GOk U g) : g.length ≤ 62 := by
  have := sub_len h.keys fun x hx => by
    obtain ⟨r, hr, rfl⟩ := List.mem_map.mp hx
    exact h.nm r hr
  rw [List.length_map] at this
  exact Nat.le_trans this h.uf
theorem GOk.name (h : GOk U g) {s t : Str} (m : t ∈ tgS g s) : isNameS s = true ∧ isNameS t = true := ⟨h.un _ (h.tgU m).1, h.un _ (h.tgU m).2⟩
theorem tg_other (h : GOk U g) {d : PyData} (hd : isName d = false) : tgD g d = [] := by
  cases d with
  | str s =>
    show tgS g s = []
    unfold tgS
    cases e : rowOf g s with
    | none => rfl
    | some r =>
      obtain ⟨h1, h2⟩ := rowOf_mem e
      have z := h.un _ (h.nm r h1)
      rw [h2] at z
      have hd' : isNameS s = false := hd
      rw [hd'] at z
      cases z
  | _ => rfl
theorem NdAt.xd (h : NdAt C H x A U g) : x ≠ A.dd := fun e => by have z := h.ob; rw [e, h.di] at z; cases z
theorem NdAt.xa (h : NdAt C H x A U g) {r : Row} (hr : r ∈ g) : x ≠ r.a := fun e => by have z := h.ob; rw [e, h.ls r hr] at z; cases z
theorem NdAt.da (h : NdAt C H x A U g) {r : Row} (hr : r ∈ g) : A.dd ≠ r.a := fun e => by have z := h.di; rw [e, h.ls r hr] at z; cases z
/-- a pot is none of its places -/
theorem NdAt.drew {p : Addr} (h : NdAt C H x A U g) (d : Drew p H H') (pot : Pot H p) : NdAt C H' x A U g := by
  obtain ⟨i, j, hp, _⟩ := pot
  refine ⟨d.at (fun e => ?_) h.ob, d.at (fun e => ?_) h.di, fun r hr => d.at (fun e => ?_) (h.ls r hr), h.ok⟩
  · have z := h.ob; rw [e, hp] at z; cases z
  · have z := h.di; rw [e, hp] at z; cases z
  · have z := h.ls r hr
    rw [e, hp] at z
    cases ht : r.ts with
    | nil => exact h.ok.ne r hr ht
    | cons t ts => rw [ht] at z; cases z
end
/-! ### a new row for a source -/
def putG (g : List Row) (n : Row) : List Row := if (rowOf g n.s).isSome = true then g.map (fun y => if y.s = n.s then n else y) else g ++ [n]
theorem putK_row (g : List Row) (n : Row) : putK (g.map kvR) (Sum.inr n.s) (.ref n.a) = (putG g n).map kvR := by
  unfold putK putG
  have e : ((g.map kvR).any fun kv => decide (kv.1 = Sum.inr n.s)) = (rowOf g n.s).isSome := by rw [valV_any, val_row, Option.isSome_map]
  rw [e]
  by_cases h : (rowOf g n.s).isSome = true
  · rw [if_pos h, if_pos h, List.map_map, List.map_map]
    refine List.map_congr_left fun y _ => ?_
    show (if (kvR y).1 = Sum.inr n.s then ((kvR y).1, V.ref n.a) else kvR y) = kvR (if y.s = n.s then n else y)
    by_cases hy : y.s = n.s
    · rw [if_pos hy, if_pos (show (kvR y).1 = Sum.inr n.s by show Sum.inr y.s = Sum.inr n.s; rw [hy])]
      show (Sum.inr y.s, V.ref n.a) = (Sum.inr n.s, V.ref n.a)
      rw [hy]
    · rw [if_neg hy, if_neg (show ¬ (kvR y).1 = Sum.inr n.s from fun z => hy (Sum.inr.inj z))]
  · rw [if_neg h, if_neg h, List.map_append]
    rfl
theorem rowOf_put (g : List Row) (n : Row) (s : Str) : rowOf (putG g n) s = if n.s = s then some n else rowOf g s := by
  unfold putG
  by_cases h : (rowOf g n.s).isSome = true
  · rw [if_pos h]
    have go : ∀ g : List Row, (rowOf g n.s).isSome = true ∨ n.s ≠ s → rowOf (g.map fun y => if y.s = n.s then n else y) s = if n.s = s then (if (rowOf g n.s).isSome = true then some n else none) else rowOf g s := by
      intro g
      induction g with
      | nil => intro hh; rcases hh with hh | hh; · cases hh
               · rw [if_neg hh]; rfl
      | cons y g ih =>
        intro hh
        unfold rowOf at ih hh ⊢
        rw [List.map_cons, List.find?_cons, List.find?_cons, List.find?_cons]
        by_cases hy : y.s = n.s
        · rw [if_pos hy, decide_eq_true hy]
          by_cases hn : n.s = s
          · rw [decide_eq_true hn, if_pos hn]; rfl
          · rw [decide_eq_false hn, if_neg hn]
            have ne : ¬ y.s = s := fun z => hn (hy.symm.trans z)
            rw [decide_eq_false ne]
            have z := ih (.inr hn)
            rw [if_neg hn] at z
            exact z
        · rw [if_neg hy, decide_eq_false hy]
          rw [List.find?_cons, decide_eq_false hy] at hh
          by_cases ys : y.s = s
          · have hn : ¬ n.s = s := fun z => hy (ys.trans z.symm)
            rw [decide_eq_true ys, if_neg hn]
          · rw [decide_eq_false ys]
            exact ih hh
    rw [go g (.inl h), if_pos h]
  · rw [if_neg h]
    unfold rowOf
    rw [List.find?_append, List.find?_cons, List.find?_nil]
    have h' : g.find? (fun r => decide (r.s = n.s)) = none := by
      cases e : rowOf g n.s with
      | none => exact e
      | some r => rw [e] at h; exact absurd rfl h
    by_cases hn : n.s = s
    · rw [decide_eq_true hn, if_pos hn, ← hn, h']; rfl
    · rw [decide_eq_false hn, if_neg hn]
      exact Option.or_none
theorem tgS_put (g : List Row) (n : Row) (s : Str) : tgS (putG g n) s = if n.s = s then n.ts else tgS g s := by
  unfold tgS
  rw [rowOf_put]
  by_cases h : n.s = s
  · rw [if_pos h, if_pos h]
  · rw [if_neg h, if_neg h]
theorem mem_put {g : List Row} {n r : Row} (h : r ∈ putG g n) : r = n ∨ r ∈ g := by
  unfold putG at h
  split at h
  · obtain ⟨y, hy, e⟩ := List.mem_map.mp h
    by_cases hs : y.s = n.s
    · rw [if_pos hs] at e; exact .inl e.symm
    · rw [if_neg hs] at e; exact .inr (e ▸ hy)
  · rcases List.mem_append.mp h with h | h
    · exact .inr h
    · exact .inl (List.mem_singleton.mp h)
theorem put_ok {U : List Str} {g : List Row} {n : Row} (h : GOk U g) (hs : n.s ∈ U) (hne : n.ts ≠ []) (hup : n.ts.Pairwise ltS) (htn : ∀ t ∈ n.ts, t ∈ U) (ha : ∀ r ∈ g, r.a ≠ n.a) : GOk U (putG g n) := by
  refine ⟨h.un, h.uf, ?_, ?_, fun r hr => ?_, fun r hr => ?_, fun r hr => ?_, fun r hr => ?_⟩
  · unfold putG
    split
    · rw [List.map_map]
      have e : (fun y : Row => y.s) ∘ (fun y => if y.s = n.s then n else y) = fun y : Row => y.s := by
        funext y
        show (if y.s = n.s then n else y).s = y.s
        by_cases hy : y.s = n.s
        · rw [if_pos hy, hy]
        · rw [if_neg hy]
      rw [e]
      exact h.keys
    · rename_i hn
      rw [List.map_append, List.nodup_append]
      refine ⟨h.keys, List.pairwise_singleton _ _, fun a ha b hb e => ?_⟩
      obtain ⟨r, hr, rfl⟩ := List.mem_map.mp ha
      rw [List.map_cons, List.map_nil, List.mem_singleton] at hb
      have z := rowOf_in h.keys hr
      rw [e, hb] at z
      rw [z] at hn
      exact hn rfl
  · unfold putG
    split
    · rw [List.map_map]
      have go : ∀ g : List Row, (g.map (·.s)).Nodup → (g.map (·.a)).Nodup → (∀ r ∈ g, r.a ≠ n.a) → (g.map ((fun y : Row => y.a) ∘ fun y => if y.s = n.s then n else y)).Nodup := by
        intro g
        induction g with
        | nil => intro _ _ _; exact List.nodup_nil
        | cons y g ih =>
          intro k1 k2 k3
          rw [List.map_cons, List.nodup_cons] at k1 k2 ⊢
          refine ⟨fun m => ?_, ih k1.2 k2.2 fun r hr => k3 r (List.mem_cons_of_mem _ hr)⟩
          obtain ⟨z, hz, e⟩ := List.mem_map.mp m
          have e' : (if z.s = n.s then n else z).a = (if y.s = n.s then n else y).a := e
          by_cases hy : y.s = n.s
          · have hzn : ¬ z.s = n.s := fun q => k1.1 (by rw [hy, ← q]; exact List.mem_map_of_mem hz)
            rw [if_pos hy, if_neg hzn] at e'
            exact k3 z (List.mem_cons_of_mem _ hz) e'
          · rw [if_neg hy] at e'
            by_cases hzn : z.s = n.s
            · rw [if_pos hzn] at e'
              exact k3 y List.mem_cons_self e'.symm
            · rw [if_neg hzn] at e'
              exact k2.1 (by rw [← e']; exact List.mem_map_of_mem hz)
      exact go g h.keys h.ads ha
    · rw [List.map_append, List.nodup_append]
      refine ⟨h.ads, List.pairwise_singleton _ _, fun a hm b hb e => ?_⟩
      obtain ⟨r, hr, rfl⟩ := List.mem_map.mp hm
      rw [List.map_cons, List.map_nil, List.mem_singleton] at hb
      exact ha r hr (e.trans hb)
  · rcases mem_put hr with rfl | hr
    · exact hs
    · exact h.nm r hr
  · rcases mem_put hr with rfl | hr
    · exact hne
    · exact h.ne r hr
  · rcases mem_put hr with rfl | hr
    · exact hup
    · exact h.up r hr
  · rcases mem_put hr with rfl | hr
    · exact htn
    · exact h.tn r hr
section
variable {P : Program} {w : World} {K : PySem.W.Frag} {mg : Str → Option Value} {base : Heap}
theorem ok_checkN {f CN : Addr} {fd : FuncData} {k j n : Nat} (F : Fun K "check_name" "check_name" sCheckN f fd) (hj : j + 1 ≤ k) (M : MkErr P w K mg base j CN "InvalidName" 1 (spInitC CN "value" n)) (h1 : HasO P w K mg base k "is_name" ["value"] (spD isName)) :
    FnOk P w K mg base (L2.CX P w) (k + 1) f fd ["value"] (spCheckN CN n) := by
  obtain ⟨f1, d1, G1, b1, k1, g1⟩ := h1.ex
  obtain ⟨fI, fdI, bb, ps, lp, Ox, FI, bI, iI, tI, gC⟩ := M
  refine F.okX scCheckN (fun vs H Q E h => by obtain ⟨_, _, rfl, _⟩ := h; rfl) (fun cdv A outer s H vs Q E hr h => ?_)
  obtain ⟨v, d, rfl, hd, hs, hc, q, qe⟩ := h
  refine ⟨_, pss_one (ps_if (pt_not (pt_val (pe_call (E := E0) G1 hr (by rfl) g1 k1 b1 .nil pass0 (pa_cons (pv 0) pa_nil)))) (pss_one (ps_raise rfl (takes_of rfl rfl rfl rfl) (pmkG Ox iI tI FI (hr.mono hj) bI .nil pass0 (by rfl) gC (pa_cons (pv 0) pa_nil)))) pss_nil), ?_⟩
  refine s_when (b := !isName d) (et_not (et_B (ev_call (ea_cons (ev_var rfl) ea_nil) (spv_D hd hs)))) (fun hb H1 e1 => ?_) (fun hb H1 e1 => ?_)
  · rw [Bool.not_eq_true'] at hb
    exact mk_cpy ⟨v, rfl, v, d, rfl, Dt.ex e1 hd, hc, fun dx H' r => qe hb dx H' (r.back e1)⟩ (fun k ⟨i, e, r⟩ => ⟨i, e, k _ _ r⟩)
  · rw [Bool.not_eq_false'] at hb
    exact q hb H1 e1
end
end Cr
/-! graphs of needs: the methods that only look -/
namespace Cr
open PySem PySem.Spec PyProof.Rows L2 Evl
abbrev sNTarg : Stmt := inClass (topS 14) 11
abbrev sNIs : Stmt := inClass (topS 14) 6
abbrev sNPairs : Stmt := inClass (topS 14) 10
abbrev sNLen : Stmt := inClass (topS 14) 3
abbrev nNSrc : List Str := ["self", "name", "source"]
abbrev nNPairs : List Str := ["self", "source", "target"]
theorem scNTarg : FnScope ["self", "name"] ["self", "name"] (defScope sNTarg) := ⟨rfl, rfl, rfl, by decide +kernel, rfl, by decide +kernel, by decide +kernel⟩
theorem scNIs : FnScope ["self", "source", "target"] ["self", "source", "target"] (defScope sNIs) := ⟨rfl, rfl, rfl, by decide +kernel, rfl, by decide +kernel, by decide +kernel⟩
theorem scNPairs : FnScope nNPairs ["self"] (defScope sNPairs) := ⟨rfl, rfl, rfl, by decide +kernel, rfl, by decide +kernel, by decide +kernel⟩
theorem scNLen : FnScope ["self"] ["self"] (defScope sNLen) := ⟨rfl, rfl, rfl, by decide +kernel, rfl, by decide +kernel, by decide +kernel⟩
structure NdC (K : PySem.W.Frag) (mg : Str → Option Value) (C : Addr) : Prop where
  cl : Cls K C
  nN : NoAttr K C "needed"
  at_ : mg "Needs" = some (.ref C)
theorem bSorted : bootBuiltins "sorted" = some (.builtin "sorted") := by decide +kernel
/-! ### sp's -/
def spTargets (C : Addr) : Sp := fun vs H Q _ => ∃ x v d A U g, vs = [.ref x, v] ∧ NdAt C H x A U g ∧ Dt H v d ∧ sm d = true ∧ ∀ l H', H l = none → Ex H H' → H' l = some (.lst ((tgD g d).map V.str)) → Q (.ref l) H'
def spIsNeed (C : Addr) : Sp := fun vs H Q _ => ∃ x v u d e A U g, vs = [.ref x, v, u] ∧ NdAt C H x A U g ∧ Dt H v d ∧ Dt H u e ∧ sm d = true ∧ sm e = true ∧ ∀ H', Ex H H' → Q (.bl (isNd g d e)) H'
/-- the sorted keys -/
def srcs (g : List Row) : List Str := srtS (g.map (·.s))
def srcD (g : List Row) (d : PyData) : List Str := (srcs g).filter fun s => isNd g (.str s) d
def prs (g : List Row) : List Pr := (srcs g).flatMap fun s => (tgS g s).map fun t => (s, t)
def spSources (C : Addr) : Sp := fun vs H Q _ => ∃ x v d A U g, vs = [.ref x, v] ∧ NdAt C H x A U g ∧ Dt H v d ∧ sm d = true ∧ ∀ l H', H l = none → Ex H H' → H' l = some (.lst ((srcD g d).map V.str)) → Q (.ref l) H'
/-- the sorted pairs, new -/
def spPairs (C : Addr) : Sp := fun vs H Q _ => ∃ x A U g, vs = [.ref x] ∧ NdAt C H x A U g ∧ ∀ l xs H', H l = none → Ex H H' → H' l = some (.lst xs) → DtAll (wo l H') xs ((prs g).map pD) → Q (.ref l) H'
def spNLen (C : Addr) : Sp := fun vs H Q _ => ∃ x A U g, vs = [.ref x] ∧ NdAt C H x A U g ∧ ∀ H', Ex H H' → Q (.int ((prs g).length : Int)) H'
/-! ### evaluating methods -/
section
variable {K : PySem.W.Frag} {σ : L2.St} {H : Hp} {ta te tb : TE} {t : TA} {C x dx : Addr} {fs : List (Str × V)} {m : Str} {sp : Sp} {E : XK} {vs xs : List V} {z : V}
theorem el_if {tt : TT} {b : Bool} (h : EvT tt σ H b) (h1 : b = true → EvL ta σ H xs) (h2 : b = false → EvL tb σ H xs) : EvL (tIf tt ta tb) σ H xs := fun H1 e Q q => h H1 e _ fun H2 e2 => by
  cases b with
  | true =>
    show ta σ H2 Q
    exact h1 rfl H2 (e.trans e2) Q fun p H3 zp e3 => q p H3 (fresh_back e2 zp) (e2.trans e3)
  | false =>
    show tb σ H2 Q
    exact h2 rfl H2 (e.trans e2) Q fun p H3 zp e3 => q p H3 (fresh_back e2 zp) (e2.trans e3)
theorem ev_meth (h : Ev ta σ H (.ref x)) (ho : H x = some (.ins C dx fs)) (hl : fs.lookup m = none) (ha : EvA t σ H vs) (hs : SpV sp (.ref x :: (vs ++ [])) H z) : Ev (tMeth C m sp [] E ta t) σ H z := fun H1 e Q q =>
  h H1 e _ fun H2 e2 => ⟨x, dx, fs, rfl, (e.trans e2) _ _ ho, hl, ha H2 (e.trans e2) _ fun H3 e3 => hs H3 ((e.trans e2).trans e3) Q (fun H4 e4 => q H4 ((e2.trans e3).trans e4)) E⟩
theorem el_meth (h : Ev ta σ H (.ref x)) (ho : H x = some (.ins C dx fs)) (hl : fs.lookup m = none) (ha : EvA t σ H vs) (hs : SpL sp (.ref x :: (vs ++ [])) H xs) : EvL (tMeth C m sp [] E ta t) σ H xs := fun H1 e Q q =>
  h H1 e _ fun H2 e2 => ⟨x, dx, fs, rfl, (e.trans e2) _ _ ho, hl, ha H2 (e.trans e2) _ fun H3 e3 => hs H3 ((e.trans e2).trans e3) Q (fun p H4 zp e4 => q p H4 (fresh_back (e2.trans e3) zp) ((e2.trans e3).trans e4)) E⟩
theorem spl_targets {A : NdA} {U : List Str} {g : List Row} {v : V} {d : PyData} (h : NdAt C H x A U g) (hd : Dt H v d) (hs : sm d = true) : SpL (spTargets C) [.ref x, v] H ((tgD g d).map V.str) := fun H1 e Q q E => ⟨x, v, d, A, U, g, rfl, h.ex e, Dt.ex e hd, hs, q⟩
theorem spv_isNeed {A : NdA} {U : List Str} {g : List Row} {v u : V} {d e : PyData} (h : NdAt C H x A U g) (hd : Dt H v d) (he : Dt H u e) (hs : sm d = true) (hs2 : sm e = true) : SpV (spIsNeed C) [.ref x, v, u] H (.bl (isNd g d e)) := fun H1 e1 Q q E => ⟨x, v, u, d, e, A, U, g, rfl, h.ex e1, Dt.ex e1 hd, Dt.ex e1 he, hs, hs2, q⟩
end
abbrev rSrtD : List V → Hp → VK → Prop := fun xs H Q => ∃ (a : Addr) (kvs : List (Key × V)) (ks : List Str), xs = [.ref a] ∧ Rd H a (.dK kvs) ∧ kvs.map (·.1) = ks.map Sum.inr ∧ ks.length < 64 ∧ ∀ ys p, ys.Perm ks → sortedS ys = true → H p = none → Q (.ref p) (upd H p (.lst (ys.map V.str)))
theorem el_srcs {K : PySem.W.Frag} {mg : Str → Option Value} {C x : Addr} {σ : L2.St} {H : Hp} {A : NdA} {U : List Str} {g : List Row} {te : TE} (T : NdC K mg C) (h : NdAt C H x A U g) (hx : Ev te σ H (.ref x)) : EvL (tCB rSrtD (tCons (tFld K te "needed") tNil)) σ H ((srcs g).map V.str) := fun H1 e Q q => by
  refine ev_fld (v := .ref A.dd) hx h.ob T.cl T.nN rfl H1 e _ fun H2 e2 => ⟨A.dd, g.map kvR, g.map (·.s), rfl, .inl ((e.trans e2) _ _ h.di), ?_, ?_, fun ys p hp hs zp => ?_⟩
  · rw [List.map_map, List.map_map]; rfl
  · have := h.ok.fewK
    rw [List.length_map]
    omega
  · rw [sorted_is hp hs]
    exact q p _ (fresh_back e2 zp) (e2.trans (Ex.new zp)) upd_same
theorem mem_srcs {U : List Str} {g : List Row} {s : Str} : s ∈ srcs g ↔ ∃ r ∈ g, r.s = s := by
  unfold srcs
  rw [(srtS_perm _).mem_iff, List.mem_map]
theorem srcs_lt {U : List Str} {g : List Row} (h : GOk U g) : (srcs g).Pairwise ltS := srtS_lt h.keys
theorem srcs_name {U : List Str} {g : List Row} (h : GOk U g) {s : Str} (m : s ∈ srcs g) : isNameS s = true := by
  obtain ⟨r, hr, rfl⟩ := (mem_srcs (U := U)).mp m
  exact h.un _ (h.nm r hr)
theorem srcs_len {U : List Str} {g : List Row} (h : GOk U g) : (srcs g).length ≤ 62 := by
  have := h.fewK
  unfold srcs
  rw [(srtS_perm _).length_eq, List.length_map]
  exact this
theorem srcs_row {U : List Str} {g : List Row} (h : GOk U g) {s : Str} (m : s ∈ srcs g) : ∃ r, rowOf g s = some r := by
  obtain ⟨r, hr, rfl⟩ := (mem_srcs (U := U)).mp m
  exact ⟨r, rowOf_in h.keys hr⟩
theorem sm_name {x : Str} (h : isNameS x = true) : sm (.str x) = true := by
  unfold isNameS at h
  simp only [Bool.and_eq_true, decide_eq_true_eq] at h
  rw [sm]
  exact decide_eq_true (by omega)
section
variable {P : Program} {w : World} {K : PySem.W.Frag} {mg : Str → Option Value} {base : Heap}
theorem ok_targets {f C : Addr} {fd : FuncData} {k : Nat} (F : Fun K "targets" "Needs.targets" sNTarg f fd) (B : Blt mg) (T : NdC K mg C) (h1 : HasO P w K mg base k "is_name" ["value"] (spD isName)) : FnOk P w K mg base CX0 (k + 1) f fd ["self", "name"] (spTargets C) := by
  obtain ⟨f1, d1, G1, b1, k1, g1⟩ := h1.ex
  refine F.ok scNTarg (fun vs H Q E h => by obtain ⟨_, _, _, _, _, _, rfl, _⟩ := h; rfl) (fun cdv A outer s H vs Q E hr h => ?_)
  obtain ⟨x, v, d, A', U, g, rfl, nd, hd, hs, q⟩ := h
  have hu := hu_of hr
  refine ⟨_, pss_one (ps_ret (pe_ifExp (pt_val (pe_call (E := E0) G1 hr (by rfl) g1 k1 b1 .nil pass0 (pa_cons (pv 1) pa_nil))) (pe_callTy call_list_of (by rfl) B.list bList (pa_cons (pe_dget2 hu (pe_fld (pv 0) rfl) (pv 1) (pe_tup pa_nil) ⟨rfl, rfl, rfl, rfl⟩) pa_nil)) (pe_lst pa_nil))), ?_⟩
  refine s_retL (el_if (b := isName d) (et_B (ev_call (ea_cons (ev_var rfl) ea_nil) (spv_D hd hs))) (fun hn => fun H1 e Q' q' => ?_) (fun hn => ?_)) q
  · cases d with
    | str s0 =>
      cases hd with
      | str =>
      refine ⟨.ref x, rfl, x, C, A'.dx, _, .ref A'.dd, rfl, e _ _ nd.ob, T.cl, T.nN, rfl, A'.dd, rfl, .inl ⟨_, .inl (e _ _ nd.di)⟩, .str s0, rfl, by show 0 ≤ sizeLine; decide, fun t zt => ?_⟩
      have e1 : Ex H (upd H1 t (.tup [])) := e.trans (Ex.new zt)
      refine ⟨_, DGet.k (k := Sum.inr s0) (e1 _ _ nd.di), ?_⟩
      rw [val_row]
      cases hr : rowOf g s0 with
      | none =>
        refine ⟨t, [], rfl, .inr (st_of upd_same), fun l zl => q' l _ (fresh_back (Ex.new zt) zl) ((Ex.new zt).trans (Ex.new zl)) ?_⟩
        have e0 : tgD g (.str s0) = [] := by show tgS g s0 = []; unfold tgS; rw [hr]
        rw [e0]
        exact upd_same
      | some r => exact ⟨r.a, (tgS g s0).map V.str, rfl, .inl (sq_of (e1 _ _ (nd.tg hr))), fun l zl => q' l _ (fresh_back (Ex.new zt) zl) ((Ex.new zt).trans (Ex.new zl)) upd_same⟩
    | _ => exact nomatch hn
  · rw [tg_other nd.ok hn]
    exact el_lst ea_nil (by decide)
theorem ok_isNeed {f C : Addr} {fd : FuncData} {k : Nat} (F : Fun K "is_need" "Needs.is_need" sNIs f fd) (T : NdC K mg C) (h1 : HasO P w K mg base k "is_name" ["value"] (spD isName)) (h2 : HasM P w K mg base CX0 k C "targets" ["self", "name"] (spTargets C)) : FnOk P w K mg base CX0 (k + 1) f fd ["self", "source", "target"] (spIsNeed C) := by
  obtain ⟨f1, d1, G1, b1, k1, g1⟩ := h1.ex
  obtain ⟨f2, d2, G2, b2, m2⟩ := h2.ex
  refine F.ok scNIs (fun vs H Q E h => by obtain ⟨_, _, _, _, _, _, _, _, rfl, _⟩ := h; rfl) (fun cdv A outer s H vs Q E hr h => ?_)
  obtain ⟨x, v, u, d, e, A', U, g, rfl, nd, hd, he, hs, hs2, q⟩ := h
  refine ⟨_, pss_one (ps_ret (pe_and (pe_call (E := E0) G1 hr (by rfl) g1 k1 b1 .nil pass0 (pa_cons (pv 2) pa_nil)) (pe_one (pe_cmpR op_in_seq (pv 2) (pe_meth (E := E0) (pv 0) T.cl m2 G2 hr b2 .nil pass0 (pa_cons (pv 1) pa_nil)) (by rfl))))), ?_⟩
  refine s_ret (ev_is (ev_andV (b := isNd g d e) (ev_call (ea_cons (ev_var rfl) ea_nil) (spv_D he hs2)) fun hn => ?_) ?_) q
  · cases e with
    | str t =>
      cases he with
      | str =>
      refine ev_is (ev_opL (ev_var rfl) (el_meth (ev_var rfl) nd.ob rfl (ea_cons (ev_var rfl) ea_nil) (spl_targets nd hd hs)) fun p H1 hp _ => rv_isL (sq_of hp) rfl (flat_strs _)) ?_
      show V.bl (inV (.str t) ((tgD g d).map V.str)) = V.bl (decide (t ∈ tgD g d))
      congr 1
      exact (Bool.eq_iff_iff).mpr (inV_mem.trans (decide_eq_true_iff (p := t ∈ tgD g d)).symm)
    | _ => exact nomatch hn
  · congr 1
    cases hn : isName e with
    | true => rfl
    | false =>
      rw [Bool.false_and]
      cases e with
      | str t =>
        show false = decide (t ∈ tgD g d)
        refine (decide_eq_false fun m => ?_).symm
        cases d with
        | str s0 =>
          have z := (nd.ok.name m).2
          have hn' : isNameS t = false := hn
          rw [hn'] at z
          cases z
        | _ => exact nomatch m
      | _ => rfl
end
end Cr
/-! graphs of needs: pairs, len -/
namespace Cr
open PySem PySem.Spec PyProof.Rows L2 Evl
/-! ### the pairs, by math -/
section
variable {U : List Str} {g : List Row}
theorem mem_prs (h : GOk U g) {p : Pr} : p ∈ prs g ↔ p.2 ∈ tgS g p.1 := by
  unfold prs
  rw [List.mem_flatMap]
  constructor
  · rintro ⟨s, hs, hp⟩
    obtain ⟨t, ht, rfl⟩ := List.mem_map.mp hp
    exact ht
  · intro m
    refine ⟨p.1, ?_, List.mem_map.mpr ⟨p.2, m, rfl⟩⟩
    cases e : rowOf g p.1 with
    | none => unfold tgS at m; rw [e] at m; exact nomatch m
    | some r =>
      obtain ⟨h1, h2⟩ := rowOf_mem e
      exact (mem_srcs (U := U)).mpr ⟨r, h1, h2⟩
theorem rise_flat {f : Str → List Str} : ∀ {ss : List Str}, ss.Pairwise ltS → (∀ s ∈ ss, (f s).Pairwise ltS) → (ss.flatMap fun s => (f s).map fun t => (s, t)).Pairwise ltP2
  | [], _, _ => .nil
  | s :: ss, h, hf => by
    rw [List.pairwise_cons] at h
    rw [List.flatMap_cons, List.pairwise_append]
    refine ⟨?_, rise_flat h.2 fun x hx => hf x (List.mem_cons_of_mem _ hx), fun a ha b hb => ?_⟩
    · refine List.Pairwise.map _ (fun a b z => ?_) (hf s List.mem_cons_self)
      exact .inr ⟨rfl, z⟩
    · obtain ⟨t, _, rfl⟩ := List.mem_map.mp ha
      obtain ⟨s2, hs2, hb⟩ := List.mem_flatMap.mp hb
      obtain ⟨t2, _, rfl⟩ := List.mem_map.mp hb
      exact .inl (h.1 s2 hs2)
theorem prs_lt (h : GOk U g) : (prs g).Pairwise ltP2 := rise_flat (srcs_lt h) fun s _ => h.up' s
theorem prs_srt (h : GOk U g) {ps : List Pr} (nd : ps.Nodup) (hm : ∀ p : Pr, p.2 ∈ tgS g p.1 ↔ p ∈ ps) : srtP ps = prs g := srtP_is (prs_lt h) nd fun p => (mem_prs h).trans (hm p)
theorem flat_len {f : Str → List Str} : ∀ {ss : List Str}, (∀ s ∈ ss, (f s).length ≤ 62) → (ss.flatMap fun s => (f s).map fun t => ((s, t) : Pr)).length ≤ 62 * ss.length
  | [], _ => Nat.le_refl _
  | s :: ss, h => by
    have a := flat_len fun x hx => h x (List.mem_cons_of_mem _ hx)
    have b := h s List.mem_cons_self
    rw [List.flatMap_cons, List.length_append, List.length_map, List.length_cons]
    omega
theorem prs_len (h : GOk U g) : (prs g).length ≤ 3844 := by
  have a := flat_len (f := tgS g) (ss := srcs g) fun s _ => h.fewT s
  have b := srcs_len h
  unfold prs
  omega
end
theorem pD_dt {H : Hp} {T : Addr} {s t : Str} (h : H T = some (.tup [.str s, .str t])) : Dt H (.ref T) (pD (s, t)) := .tup h (.cons (.str s) (.cons (.str t) .nil))
/-- what is done so far: all pairs of the first i keys -/
def prsTo (g : List Row) (i : Nat) : List Pr := ((srcs g).take i).flatMap fun s => (tgS g s).map fun t => (s, t)
theorem prsTo_len {U : List Str} {g : List Row} (h : GOk U g) (i : Nat) : (prsTo g i).length ≤ 3844 := by
  have a := flat_len (f := tgS g) (ss := (srcs g).take i) fun s _ => h.fewT s
  have b := srcs_len h
  have c : ((srcs g).take i).length ≤ (srcs g).length := by rw [List.length_take]; omega
  unfold prsTo
  omega
theorem prsTo_succ {g : List Row} {i : Nat} {s : Str} (h : (srcs g)[i]? = some s) : prsTo g (i + 1) = prsTo g i ++ (tgS g s).map fun t => (s, t) := by
  unfold prsTo
  obtain ⟨hi, e⟩ := List.getElem?_eq_some_iff.mp h
  rw [List.take_succ_eq_append_getElem hi, List.flatMap_append, e]
  simp
section
variable {P : Program} {w : World} {K : PySem.W.Frag} {mg : Str → Option Value} {base : Heap}
theorem ok_pairs {f C : Addr} {fd : FuncData} {k : Nat} (F : Fun K "pairs" "Needs.pairs" sNPairs f fd) (B : Blt mg) (T : NdC K mg C) : FnOk P w K mg base CX0 (k + 1) f fd ["self"] (spPairs C) := by
  refine F.ok scNPairs (fun vs H Q E h => by obtain ⟨_, _, _, _, rfl, _⟩ := h; rfl) (fun cdv A outer s H vs Q E hr h => ?_)
  obtain ⟨x, A', U, g, rfl, nd, q⟩ := h
  have hu := hu_of hr
  refine ⟨_, pss_one (ps_ret (pe_lc2 (own := [("source", 1), ("target", 2)]) (vs1 := [2]) (g := gName 1) (tt := tYes) (g1 := gName 2) (tt1 := tYes) (te := tTup (tCons (tVar 1) (tCons (tVar 2) tNil))) (wi1 := iList K (tDGet (tFld K (tVar 0) "needed") (tVar 1))) rfl scNPairs.nd
    (pi_list (pe_callB (call_sortedD rfl) (by rfl) B.sorted bSorted (pa_cons (pe_fld (pv 0) rfl) pa_nil))) (blkOk_by (own := [("source", 1), ("target", 2)]) (N := nNPairs) (sc := defScope sNPairs) (by decide +kernel)) (by decide)
    (fun _ _ _ _ _ => pg_name (i := 1) scNPairs.nd rfl (Or.inl rfl)) (fun _ _ _ _ _ => pts_nil) (fun _ _ _ _ _ => by exact pi_list (pe_dget hu (pe_fld (pv 0) rfl) (pv 1) (fun _ _ => rfl))) (fun _ _ _ _ _ => pg_name (i := 2) scNPairs.nd rfl (Or.inl rfl)) (fun _ _ _ _ _ => pts_nil) (fun _ _ _ _ _ => by exact pe_tup (pa_cons (pv 1) (pa_cons (pv 2) pa_nil))))), ?_⟩
  have ks : EvL (tCB rSrtD (tCons (tFld K (tVar 0) "needed") tNil)) [some (.ref x), none, none] H ((srcs g).map V.str) := el_srcs T nd (ev_var rfl)
  unfold tRet tLc2 iList
  refine ks H (Ex.refl H) _ fun L H1 zL e1 hL => ?_
  refine ⟨L, rfl, ⟨_, sq_of hL⟩, fun D hD => ?_⟩
  have LD : L ≠ D := ne_of_none hL hD
  have len := srcs_len nd.ok
  -- the heap beside the new list
  have nd1 := nd.ex e1
  refine ⟨fun i m H2 => m = (srcs g).length - i ∧ i ≤ (srcs g).length ∧ ∃ acc, H2 D = some (.lst acc) ∧ DtAll (wo D H2) acc ((prsTo g i).map pD) ∧ Ex H1 (wo D H2), ⟨(srcs g).length, by simp, Nat.zero_le _, [], upd_same, .nil, fun b o hb => by rw [wo_ne (ne_of_none hb hD), upd_ne (ne_of_none hb hD)]; exact hb⟩, ?_⟩
  rintro i m H2 ⟨rfl, hi, acc, hacc, hdt, ex2⟩
  have low : Ex H1 H2 := ex2.trans (wo_ex D H2)
  by_cases hlt : i < (srcs g).length
  · have hs : (srcs g)[i]? = some (srcs g)[i] := List.getElem?_eq_getElem hlt
    generalize (srcs g)[i] = s0 at hs
    obtain ⟨r, hr'⟩ := srcs_row nd.ok (List.mem_of_getElem? hs)
    refine .inr ⟨⟨_, .str s0, sq_of (low _ _ hL), by rw [List.getElem?_map, hs]; rfl⟩, fun H3 => ∃ acc, H3 D = some (.lst acc) ∧ DtAll (wo D H3) acc ((prsTo g (i + 1)).map pD) ∧ Ex H1 (wo D H3), fun H' hN => ⟨(srcs g).length - (i + 1), by omega, rfl, hlt, hN⟩, fun y H' hy => ?_⟩
    obtain ⟨rfl, hy⟩ := hy
    have ey : y = .str s0 := by
      have z := hy _ (sq_of (low _ _ hL))
      rw [List.getElem?_map, hs] at z
      exact (Option.some.inj z).symm
    subst ey
    refine ⟨rfl, ?_⟩
    show tYes _ _ _
    have nd2 := nd1.ex low
    refine ⟨.ref x, rfl, x, C, A'.dx, _, .ref A'.dd, rfl, nd2.ob, T.cl, T.nN, rfl, .str s0, rfl, A'.dd, .ref r.a, rfl, ?_, r.a, rfl, ⟨_, sq_of (nd2.tg hr')⟩, ?_⟩
    · have z := DGet.k (k := Sum.inr s0) nd2.di
      rw [val_row, hr'] at z
      exact z
    refine ⟨fun j k H3 => k = (tgS g s0).length - j ∧ j ≤ (tgS g s0).length ∧ ∃ acc, H3 D = some (.lst acc) ∧ DtAll (wo D H3) acc ((prsTo g i ++ ((tgS g s0).take j).map fun t => (s0, t)).map pD) ∧ Ex H1 (wo D H3), ⟨(tgS g s0).length, by simp, Nat.zero_le _, acc, hacc, by rw [List.take_zero, List.map_nil, List.append_nil]; exact hdt, ex2⟩, ?_⟩
    rintro j k H3 ⟨rfl, hj, acc3, hacc3, hdt3, ex3⟩
    have low3 : Ex H1 H3 := ex3.trans (wo_ex D H3)
    have nd3 := nd1.ex low3
    by_cases hjt : j < (tgS g s0).length
    · have ht : (tgS g s0)[j]? = some (tgS g s0)[j] := List.getElem?_eq_getElem hjt
      have htk : (tgS g s0).take (j + 1) = (tgS g s0).take j ++ [(tgS g s0)[j]] := List.take_succ_eq_append_getElem hjt
      generalize (tgS g s0)[j] = t0 at ht htk
      refine .inr ⟨⟨_, .str t0, sq_of (nd3.tg hr'), by rw [List.getElem?_map, ht]; rfl⟩, fun H4 => ∃ acc, H4 D = some (.lst acc) ∧ DtAll (wo D H4) acc ((prsTo g i ++ ((tgS g s0).take (j + 1)).map fun t => (s0, t)).map pD) ∧ Ex H1 (wo D H4), fun H' hN => ⟨(tgS g s0).length - (j + 1), by omega, rfl, hjt, hN⟩, fun y2 H' hy2 => ?_⟩
      obtain ⟨rfl, hy2⟩ := hy2
      have ey2 : y2 = .str t0 := by
        have z := hy2 _ (sq_of (nd3.tg hr'))
        rw [List.getElem?_map, ht] at z
        exact (Option.some.inj z).symm
      subst ey2
      refine ⟨rfl, ?_⟩
      show tYes _ _ _
      refine ⟨.str s0, rfl, .str t0, rfl, by show 2 ≤ sizeLine; decide, fun Tp zT => ?_⟩
      have TD : Tp ≠ D := fun e => by rw [e, hacc3] at zT; cases zT
      have la := dtAll_len hdt3
      refine ⟨acc3, by rw [upd_ne TD.symm]; exact hacc3, ?_, acc3 ++ [.ref Tp], upd_same, ?_, ?_⟩
      · rw [la, List.length_map, List.length_append, List.length_map, List.length_take, sizeLine_eq]
        have a1 := prsTo_len nd.ok i
        have a2 := nd.ok.fewT s0
        omega
      · have exD : Ex (wo D H') (wo D (upd (upd H' Tp (.tup [.str s0, .str t0])) D (.lst (acc3 ++ [.ref Tp])))) := fun b o hb => by
          obtain ⟨n1, hb⟩ := wo_some hb
          rw [wo_ne n1, upd_ne n1, upd_ne (ne_of_none hb zT)]
          exact hb
        have em : (prsTo g i ++ ((tgS g s0).take (j + 1)).map fun t => (s0, t)).map pD = ((prsTo g i ++ ((tgS g s0).take j).map fun t => (s0, t)).map pD) ++ [pD (s0, t0)] := by
          rw [htk]
          simp
        rw [em]
        refine dtAll_app (DtAll.ex exD hdt3) (.cons (pD_dt ?_) .nil)
        rw [wo_ne TD, upd_ne TD, upd_same]
      · intro b o hb
        have n1 : b ≠ D := ne_of_none hb hD
        have hb3 := low3 b o hb
        rw [wo_ne n1, upd_ne n1, upd_ne (ne_of_none hb3 zT)]
        exact hb3
    · refine .inl ⟨⟨_, sq_of (nd3.tg hr'), by rw [List.length_map]; omega⟩, acc3, hacc3, ?_, ex3⟩
      rw [prsTo_succ hs]
      rw [List.take_of_length_le (by omega)] at hdt3
      exact hdt3
  · refine .inl ⟨⟨_, sq_of (low _ _ hL), by rw [List.length_map]; omega⟩, q D acc H2 (fresh_back e1 hD) (e1.trans low) hacc ?_⟩
    have ei : prsTo g i = prs g := by
      unfold prsTo prs
      rw [List.take_of_length_le (by omega)]
    rw [ei] at hdt
    exact hdt
theorem ok_nlen {f C : Addr} {fd : FuncData} {k : Nat} (F : Fun K "__len__" "Needs.__len__" sNLen f fd) (B : Blt mg) (T : NdC K mg C) (h1 : HasM P w K mg base CX0 k C "pairs" ["self"] (spPairs C)) : FnOk P w K mg base CX0 (k + 1) f fd ["self"] (spNLen C) := by
  obtain ⟨f1, d1, G1, b1, m1⟩ := h1.ex
  refine F.ok scNLen (fun vs H Q E h => by obtain ⟨_, _, _, _, rfl, _⟩ := h; rfl) (fun cdv A outer s H vs Q E hr h => ?_)
  obtain ⟨x, A', U, g, rfl, nd, q⟩ := h
  refine ⟨_, pss_one (ps_ret (pe_callB call_len_seq (by rfl) B.len bLen (pa_cons (pe_meth0 (E := E0) (pv 0) T.cl m1 G1 hr b1 .nil pass0) pa_nil))), ?_⟩
  refine ⟨.ref x, rfl, x, A'.dx, _, rfl, nd.ob, rfl, x, A', U, g, rfl, nd, fun l xs H' zl e hl hd => ⟨l, xs, rfl, .inl (sq_of hl), ?_⟩⟩
  have z := q H' e
  have la := dtAll_len hd
  rw [List.length_map] at la
  rw [la]
  exact z
end
end Cr
/-! names and pairs of names can be laid out -/
namespace Cr
open PySem PySem.Spec PyProof.Rows L2 Evl
theorem nm_sok {x : Str} (h : isNameS x = true) : PyData.strOk x = true := by
  unfold isNameS at h
  simp only [Bool.and_eq_true, decide_eq_true_eq] at h
  unfold PyData.strOk
  rw [Array.all_eq_true_iff_forall_mem]
  intro c hc
  have y := List.all_eq_true.mp h.2 c (by simpa using hc)
  unfold isLow at y
  simp only [Bool.and_eq_true, decide_eq_true_eq] at y
  exact decide_eq_true (by omega)
theorem pr_lay {p : Pr} (h1 : isNameS p.1 = true) (h2 : isNameS p.2 = true) : (pD p).canLay0 = true := by
  unfold pD
  rw [PyData.canLay0, PyData.canLayAll0, PyData.canLayAll0, PyData.canLayAll0, PyData.canLay0, PyData.canLay0, nm_sok h1, nm_sok h2]
  rfl
theorem prs_lay : ∀ {ps : List Pr}, (∀ p ∈ ps, isNameS p.1 = true ∧ isNameS p.2 = true) → PyData.canLayAll0 (ps.map pD) = true
  | [], _ => rfl
  | p :: r, h => by
    rw [List.map_cons, PyData.canLayAll0, pr_lay (h p List.mem_cons_self).1 (h p List.mem_cons_self).2, prs_lay fun x hx => h x (List.mem_cons_of_mem _ hx)]
    rfl
theorem prs_depth : ∀ ps : List Pr, PyData.depthAll (ps.map pD) ≤ 1
  | [] => Nat.zero_le _
  | p :: r => by rw [List.map_cons, PyData.depthAll]; exact Nat.max_le.mpr ⟨Nat.le_refl _, prs_depth r⟩
theorem prs_shaped {ps : List Pr} (h : ∀ p ∈ ps, isNameS p.1 = true ∧ isNameS p.2 = true) : SeqAt.shaped (.list (ps.map pD)) = true := by
  unfold SeqAt.shaped
  rw [PyData.canLay0, prs_lay h, PyData.depth]
  refine decide_eq_true ?_
  have := prs_depth ps
  omega
theorem lay_strs {xs : List Str} (h : ∀ x ∈ xs, isNameS x = true) : (PyData.list (xs.map PyData.str)).canLay0 = true ∧ (PyData.list (xs.map PyData.str)).depth ≤ 2 := by
  have go : ∀ xs : List Str, (∀ x ∈ xs, isNameS x = true) → PyData.canLayAll0 (xs.map PyData.str) = true ∧ PyData.depthAll (xs.map PyData.str) ≤ 1 := by
    intro xs
    induction xs with
    | nil => exact fun _ => ⟨rfl, Nat.zero_le _⟩
    | cons x r ih =>
      intro h
      obtain ⟨a, b⟩ := ih fun z hz => h z (List.mem_cons_of_mem _ hz)
      rw [List.map_cons, PyData.canLayAll0, PyData.depthAll, a, PyData.canLay0, nm_sok (h x List.mem_cons_self)]
      exact ⟨rfl, Nat.max_le.mpr ⟨Nat.zero_le _, b⟩⟩
  obtain ⟨a, b⟩ := go xs h
  rw [PyData.canLay0, PyData.depth]
  exact ⟨a, by omega⟩
end Cr
/-! paths from a name, the shortest first: the list that grows while it is walked -/
namespace Cr
open PySem PySem.Spec PyProof.Rows L2 Evl
theorem nodup_len : ∀ {ws us : List Str}, ws.Nodup → (∀ w ∈ ws, w ∈ us) → ws.length ≤ us.length
  | [], _, _, _ => Nat.zero_le _
  | w :: ws, us, nd, h => by
    have hw := h w (List.mem_cons_self ..)
    rw [List.nodup_cons] at nd
    have ih := nodup_len (us := us.erase w) nd.2 fun x hx => (List.mem_erase_of_ne (fun e : x = w => nd.1 (by rw [← e]; exact hx))).mpr (h x (List.mem_cons_of_mem _ hx))
    rw [List.length_erase_of_mem hw] at ih
    have : 0 < us.length := List.length_pos_of_mem hw
    rw [List.length_cons]
    omega
def lastP (p : List Str) : Str := p.getLastD ""
def lasts (q : List (List Str)) : List Str := q.map lastP
/-- one target more -/
def ext1 (p : List Str) (q : List (List Str)) (t : Str) : List (List Str) := if t ∈ lasts q then q else q ++ [p ++ [t]]
def ext (ts : List Str) (p : List Str) (q : List (List Str)) : List (List Str) := ts.foldl (ext1 p) q
inductive Reach (T : Str → List Str) (a : Str) : Str → Prop
  | refl : Reach T a a
  | step {b t : Str} : Reach T a b → t ∈ T b → Reach T a t
theorem Reach.mono {T T' : Str → List Str} {a b : Str} (h : ∀ s t, t ∈ T s → t ∈ T' s) (r : Reach T a b) : Reach T' a b := by
  induction r with
  | refl => exact .refl
  | step _ m ih => exact .step ih (h _ _ m)
end Cr
/-! expressions by the data that they give, further -/
namespace Cr
open PySem PySem.Spec PyProof.Rows L2 Evl
theorem q_asgD {i : Nat} {te : TE} {tz : TS} {D : Ends} {σ : L2.St} {H : Hp} {d : PyData} (h : EvD te σ H d) (k : ∀ v H1, Ex H H1 → Dt H1 v d → tz D (σ.set i (some v)) H1) : tSeq (tAsg te (gName i)) tz D σ H := h H (Ex.refl H) _ k
theorem evd_var {i : Nat} {σ : L2.St} {H : Hp} {v : V} {d : PyData} (h : σ[i]? = some (some v)) (hd : Dt H v d) : EvD (tVar i) σ H d := evd_of (ev_var h) hd
section
variable {K : PySem.W.Frag} {te ta tb : TE} {tA : TA} {σ : L2.St} {H : Hp} {d e : PyData} {ds : List PyData} {i j : Nat} {E : XK}
theorem evd_ofL {xs : List V} (h : EvL te σ H xs) (hd : ∀ H, DtAll H xs ds) : EvD te σ H (.list ds) := fun H1 e1 Q q => h H1 e1 _ fun p H2 z e2 hp => q (.ref p) H2 e2 (.lst hp (hd _))
theorem et_neD (h1 : EvD ta σ H d) (h2 : EvD tb σ H e) (s1 : SeqAt.shaped d = true) (s2 : SeqAt.shaped e = true) : EvT (tTest (tOp rNeDt ta tb)) σ H (!PyData.eqv d e) := fun H1 e1 Q q =>
  h1 H1 e1 _ fun v H2 e2 hv => h2 H2 (e1.trans e2) _ fun u H3 e3 hu => ⟨d, e, Dt.ex e3 hv, hu, s1, s2, _, rfl, q H3 (e2.trans e3)⟩
theorem ev_reprD (h : EvD te σ H d) (hf : Fits d) : Ev (tCB rRepr (tCons te tNil)) σ H (.str d.shown) := fun H1 e1 Q q => h H1 e1 _ fun v H2 e2 hv => ⟨v, d, rfl, hv, hf, q H2 e2⟩
theorem evd_if {tt : TT} {b : Bool} (ht : EvT tt σ H b) (h1 : b = true → EvD ta σ H d) (h2 : b = false → EvD tb σ H d) : EvD (tIf tt ta tb) σ H d := fun H1 e1 Q q => ht H1 e1 _ fun H2 e2 => by
  cases b with
  | true =>
    show ta σ H2 Q
    exact h1 rfl H2 (e1.trans e2) Q fun v H3 e3 => q v H3 (e2.trans e3)
  | false =>
    show tb σ H2 Q
    exact h2 rfl H2 (e1.trans e2) Q fun v H3 e3 => q v H3 (e2.trans e3)
end
/-! ### in a list of data -/
def rInLDt (neg : Bool) : R2 := fun x y H Q => ∃ d ds, Dt H x d ∧ Dt H y (.list ds) ∧ d.canLay0 = true ∧ PyData.canLayAll0 ds = true ∧ d.depth ≤ 5 ∧ Q (.bl (if neg = true then !ds.any fun z => PyData.eqv z d else ds.any fun z => PyData.eqv z d)) H
theorem op_notInLDt {X : Cx} (hu : X.A.units + 64 < cLine) : OpR X (compareOp .NotIn) (rInLDt true) := by
  intro pins s σ H x y v u Q I rx ry h
  obtain ⟨d, ds, hd, he, sd, se, dp, q⟩ := h
  obtain ⟨as, r1⟩ := (Dt.shown I hd rx).1
  obtain ⟨bs, r2⟩ := (Dt.shown I he ry).1
  exact SeqAt.notIn_list_reads r2 r1 se sd (by have := Nat.min_le_right (PyData.depthAll ds) d.depth; omega) ⟨.bl _, H, I, rfl, q⟩
theorem et_notInL {ta tb : TE} {σ : L2.St} {H : Hp} {d : PyData} {ds : List PyData} (h1 : EvD ta σ H d) (h2 : EvD tb σ H (.list ds)) (s1 : d.canLay0 = true) (s2 : PyData.canLayAll0 ds = true) (dp : d.depth ≤ 5) : EvT (tTest (tOp (rInLDt true) ta tb)) σ H (!ds.any fun z => PyData.eqv z d) := fun H1 e1 Q q =>
  h1 H1 e1 _ fun v H2 e2 hv => h2 H2 (e1.trans e2) _ fun u H3 e3 hu => ⟨d, ds, Dt.ex e3 hv, hu, s1, s2, dp, _, rfl, q H3 (e2.trans e3)⟩
theorem eqv_pD (p q : Pr) : PyData.eqv (pD p) (pD q) = decide (p = q) := by
  unfold pD
  rw [PyData.eqv, PyData.eqvAll, PyData.eqvAll, PyData.eqvAll, PyData.eqv, PyData.eqv]
  obtain ⟨a, b⟩ := p
  obtain ⟨c, d⟩ := q
  show (decide (a = c) && (decide (b = d) && true)) = decide ((a, b) = (c, d))
  rw [Bool.and_true, ← Bool.decide_and]
  exact decide_eq_decide.mpr ⟨fun ⟨h1, h2⟩ => by rw [h1, h2], fun h => ⟨congrArg Prod.fst h, congrArg Prod.snd h⟩⟩
theorem any_pD (ps : List Pr) (q : Pr) : ((ps.map pD).any fun z => PyData.eqv z (pD q)) = decide (q ∈ ps) := by
  rw [List.any_map]
  refine (Bool.eq_iff_iff).mpr ?_
  rw [List.any_eq_true, decide_eq_true_iff]
  constructor
  · rintro ⟨x, hx, e⟩
    have e' : PyData.eqv (pD x) (pD q) = true := e
    rw [eqv_pD] at e'
    exact of_decide_eq_true e' ▸ hx
  · exact fun h => ⟨q, h, by show PyData.eqv (pD q) (pD q) = true; rw [eqv_pD]; exact decide_eq_true rfl⟩
/-! ### a list of pairs made in a comprehension -/
theorem dt_str {H : Hp} {v : V} {x : Str} (h : Dt H v (.str x)) : v = .str x := by cases h; rfl
/-! ### a list that is new -/
def EvDF (te : TE) (σ : L2.St) (H : Hp) (d : PyData) : Prop := ∀ H1, Ex H H1 → ∀ Q : VK, (∀ p H2, H1 p = none → Ex H1 H2 → Dt H2 (.ref p) d → Q (.ref p) H2) → te σ H1 Q
theorem EvDF.d {te : TE} {σ : L2.St} {H : Hp} {d : PyData} (h : EvDF te σ H d) : EvD te σ H d := fun H1 e Q q => h H1 e Q fun p H2 _ e2 hd => q (.ref p) H2 e2 hd
/-! ### a list filtered in a comprehension -/
theorem evdf_filter {K : PySem.W.Frag} {tl : TE} {tt : TT} {σ : L2.St} {H : Hp} {j : Nat} {a : Addr} {xs : List V} {ds : List PyData} (b : PyData → Bool) (hl : Ev tl σ H (.ref a)) (ha : H a = some (.lst xs)) (hx : DtAll H xs ds) (hz : xs.length ≤ 40000) (hj : ∀ x, wipe ((wipe σ [j]).set j (some x)) [j] = wipe σ [j]) (hjl : j < σ.length) (hwl : (wipe σ [j]).length = σ.length)
    (ht : ∀ x d H1, Ex H H1 → Dt H1 x d → d ∈ ds → EvT tt ((wipe σ [j]).set j (some x)) H1 (b d)) : EvDF (tLc (iList K tl) (gName j) tt (tVar j) [j]) σ H (.list (ds.filter b)) := fun H0 e Q q => by
  refine hl H0 e _ fun H1 e1 => ?_
  have e01 := e.trans e1
  have ha1 := e01 _ _ ha
  have hx1 := DtAll.ex e01 hx
  have len := dtAll_len hx
  refine ⟨a, rfl, ⟨_, sq_of ha1⟩, fun D hD => ?_⟩
  refine lc_it (walk_list (K := K) (a := a) (xs := xs)) (fun n H2 => ∃ acc, H2 D = some (.lst acc) ∧ DtAll (wo D H2) acc ((ds.take n).filter b) ∧ Ex H1 (wo D H2))
    ⟨[], upd_same, by rw [List.take_zero]; exact .nil, fun c o hb => by rw [wo_ne (ne_of_none hb hD), upd_ne (ne_of_none hb hD)]; exact hb⟩ (fun n H2 _ p => ?_) (fun n x H2 H3 hlt p y => ?_) (fun H2 p => ?_)
  · obtain ⟨_, _, _, ex2⟩ := p
    exact sq_of ((ex2.trans (wo_ex D H2)) _ _ ha1)
  · obtain ⟨acc, hacc, hdt, ex2⟩ := p
    obtain ⟨rfl, hy⟩ := y
    obtain ⟨d, hd, hxd⟩ := DtAll.get hx1 hy
    have low := ex2.trans (wo_ex D H3)
    have hnd : n < ds.length := by omega
    have htk : ds.take (n + 1) = ds.take n ++ [d] := by
      rw [List.take_succ_eq_append_getElem hnd]
      congr 2
      rw [List.getElem?_eq_getElem hnd] at hd
      exact Option.some.inj hd
    refine ⟨hj _, ?_⟩
    refine ht x d H3 (e01.trans low) (Dt.ex low hxd) (List.mem_of_getElem? hd) H3 (Ex.refl H3) _ fun H4 e4 => ?_
    have ex4 : Ex H1 (wo D H4) := fun c o hc => by
      have n1 : c ≠ D := ne_of_none hc hD
      rw [wo_ne n1]
      exact e4 _ _ (low _ _ hc)
    have dt4 : DtAll (wo D H4) acc ((ds.take n).filter b) := DtAll.ex (Ex.wo e4) hdt
    cases hb : b d with
    | true =>
      rw [if_pos rfl]
      have la := dtAll_len hdt
      have lf := List.length_filter_le b (ds.take n)
      rw [List.length_take] at lf
      refine ⟨x, by rw [List.getElem?_set_self (by rw [hwl]; exact hjl)], acc, e4 _ _ hacc, by rw [sizeLine_eq]; omega, acc ++ [x], upd_same, ?_, fun c o hc => by rw [wo_ne (ne_of_none hc hD), upd_ne (ne_of_none hc hD)]; exact e4 _ _ (low _ _ hc)⟩
      have exD : Ex (wo D H4) (wo D (upd H4 D (.lst (acc ++ [x])))) := fun c o hc => by
        obtain ⟨n1, hc⟩ := wo_some hc
        rw [wo_ne n1, upd_ne n1]
        exact hc
      rw [htk, List.filter_append, List.filter_cons_of_pos hb, List.filter_nil]
      exact dtAll_app (DtAll.ex exD dt4) (.cons (Dt.ex (ex4.trans exD) hxd) .nil)
    | false =>
      rw [if_neg Bool.false_ne_true]
      refine ⟨acc, e4 _ _ hacc, ?_, ex4⟩
      rw [htk, List.filter_append, List.filter_cons_of_neg (by rw [hb]; decide), List.filter_nil, List.append_nil]
      exact dt4
  · obtain ⟨acc, hacc, hdt, ex2⟩ := p
    rw [List.take_of_length_le (by omega)] at hdt
    exact q D H2 (fresh_back e1 hD) (e1.trans (ex2.trans (wo_ex D H2))) (.lst hacc (DtAll.ex (wo_ex D H2) hdt))
/-! ### lists and tuples stay -/
theorem dts_strs {H : Hp} : ∀ xs : List Str, DtAll H (xs.map V.str) (xs.map PyData.str)
  | [] => .nil
  | x :: r => .cons (.str x) (dts_strs r)
/-- a list of pairs is no list of ints -/
theorem pairs_wo {p : Addr} {H : Hp} {i j : Int} {v : V} {qs : List Pr} (hp : H p = some (.lst [.int i, .int j])) (h : Dt H v (.list (qs.map pD))) : Dt (wo p H) v (.list (qs.map pD)) := by
  obtain ⟨a, xs, rfl, ha, hx⟩ := dt_lst h
  have tups : ∀ {xs : List V} {qs : List Pr}, DtAll H xs (qs.map pD) → DtAll (wo p H) xs (qs.map pD) := by
    intro xs qs
    induction qs generalizing xs with
    | nil => intro h; cases h; exact .nil
    | cons q r ih =>
      intro h
      cases h with
      | cons h1 h2 =>
        refine .cons ?_ (ih h2)
        cases h1 with
        | tup h3 h4 =>
          cases h4 with
          | cons h5 h6 =>
          cases h6 with
          | cons h7 h8 =>
          cases h8
          cases h5
          cases h7
          exact .tup (by rw [wo_ne (fun e => by rw [e, hp] at h3; cases h3)]; exact h3) (.cons (.str _) (.cons (.str _) .nil))
  refine .lst ?_ (tups hx)
  rw [wo_ne (fun e => ?_)]
  · exact ha
  · rw [e, hp] at ha
    cases ha
    cases qs with
    | nil => cases hx
    | cons q r =>
      cases hx with
      | cons h1 _ => cases h1
end Cr
/-! what can be reached along pairs -/
namespace Cr
open PySem PySem.Spec PyProof.Rows L2 Evl
/-- the targets of a name, as the pairs stand -/
def tgP (ps : List Pr) (s : Str) : List Str := (ps.filter fun q => decide (q.1 = s)).map (·.2)
theorem mem_tgP {ps : List Pr} {s t : Str} : t ∈ tgP ps s ↔ (s, t) ∈ ps := by
  unfold tgP
  rw [List.mem_map]
  constructor
  · rintro ⟨q, hq, rfl⟩
    obtain ⟨h1, h2⟩ := List.mem_filter.mp hq
    rw [← of_decide_eq_true h2]
    exact h1
  · exact fun h => ⟨(s, t), List.mem_filter.mpr ⟨h, decide_eq_true rfl⟩, rfl⟩
theorem dtAll_at {H : Hp} {v : V} : ∀ {xs : List V} {ds : List PyData} {j : Nat}, DtAll H xs ds → xs[j]? = some v → ∃ d, ds[j]? = some d ∧ Dt H v d
  | _, _, 0, .cons a _, h => ⟨_, rfl, by cases h; exact a⟩
  | _, _, j + 1, .cons _ b, h => dtAll_at (j := j) b h
end Cr
/-! what a graph answers: lists and pairs -/
namespace Cr
open PySem PySem.Spec PyProof.Rows L2 Evl
/-! ### lists that a comprehension picks -/
theorem given_fm {α : Type} (l : List α) (d : α) (f : α → Bool) (v : α → V) : given l.length (fun i => f (l.getD i d)) (fun i => v (l.getD i d)) = (l.filter f).map v := by
  have e : (List.range l.length).map (fun i => l.getD i d) = l := by
    refine List.ext_getElem? fun i => ?_
    rw [List.getElem?_map]
    by_cases hi : i < l.length
    · rw [List.getElem?_range hi, List.getElem?_eq_getElem hi]
      show some (l.getD i d) = _
      rw [List.getD_eq_getElem?_getD, List.getElem?_eq_getElem hi]
      rfl
    · rw [List.getElem?_eq_none (by rw [List.length_range]; omega), List.getElem?_eq_none (by omega)]
      rfl
  have z : (((List.range l.length).map fun i => l.getD i d).filter f).map v = (l.filter f).map v := by rw [e]
  rw [List.filter_map, List.map_map] at z
  exact z
theorem getD_at {α : Type} {l : List α} {i : Nat} {d x : α} (h : l[i]? = some x) : l.getD i d = x := by
  rw [List.getD_eq_getElem?_getD, h]
  rfl
theorem evd_strs {te : TE} {σ : L2.St} {H : Hp} {ss : List Str} (h : EvL te σ H (ss.map V.str)) : EvD te σ H (.list (ss.map PyData.str)) := evd_ofL h fun _ => dts_strs ss
/-- one of the parts of the pairs whose other part is the name -/
theorem el_part {K : PySem.W.Frag} {tl : TE} {σ : L2.St} {H : Hp} {j a : Nat} {lp : Addr} {ps : List Pr} {nm : Str} (b c : Bool) (hl : Ev tl σ H (.ref lp)) (hp : Dt H (.ref lp) (.list (ps.map pD))) (hz : ps.length ≤ 1000) (hj : ∀ x, wipe ((wipe σ [j]).set j (some x)) [j] = wipe σ [j]) (hjl : j < σ.length) (hwl : (wipe σ [j]).length = σ.length) (haj : a ≠ j) (ha : (wipe σ [j])[a]? = some (some (.str nm))) :
    EvL (tLc (iList K tl) (gName j) (tTest (tOp rEq (tOp (rIxT K) (tVar j) (tC (.int (if b then 1 else 0)))) (tVar a))) (tOp (rIxT K) (tVar j) (tC (.int (if c then 1 else 0)))) [j]) σ H (((ps.filter fun q => decide ((if b then q.2 else q.1) = nm)).map fun q => if c then q.2 else q.1).map V.str) := by
  obtain ⟨_, xs, e', hx, hd⟩ := dt_lst hp
  cases e'
  have lx := dtAll_len hd
  rw [List.length_map] at lx
  have pos : ∀ {i : Nat} {x : V}, xs[i]? = some x → ∃ q0 T, ps[i]? = some q0 ∧ x = .ref T ∧ H T = some (.tup [.str q0.1, .str q0.2]) := fun {i x} hi => by
    obtain ⟨d, hd1, hd2⟩ := dtAll_at hd hi
    rw [List.getElem?_map] at hd1
    obtain ⟨q0, hq0, rfl⟩ : ∃ q0, ps[i]? = some q0 ∧ pD q0 = d := by
      cases hh : ps[i]? with
      | none => rw [hh] at hd1; cases hd1
      | some r => rw [hh] at hd1; exact ⟨r, rfl, Option.some.inj hd1⟩
    cases hd2 with
    | @tup T _ _ hT hv =>
    cases hv with
    | cons hva hv =>
    cases hv with
    | cons hvb hv =>
    cases hv
    cases dt_str hva
    cases dt_str hvb
    exact ⟨q0, T, hq0, rfl, hT⟩
  have ix : ∀ {H1 : Hp} {x : V} {T : Addr} {q0 : Pr} (c : Bool), x = .ref T → H1 T = some (.tup [.str q0.1, .str q0.2]) → Ev (tOp (rIxT K) (tVar j) (tC (.int (if c then 1 else 0)))) ((wipe σ [j]).set j (some x)) H1 (.str (if c then q0.2 else q0.1)) := fun {H1 x T q0} c ex hT => by
    subst ex
    have h1 : ((wipe σ [j]).set j (some (V.ref T)))[j]? = some (some (.ref T)) := List.getElem?_set_self (by rw [hwl]; exact hjl)
    cases c with
    | true => exact ev_op (ev_var h1) ev_c (rv_ixT (st_of hT) (atI_nat (j := 1) rfl))
    | false => exact ev_op (ev_var h1) ev_c (rv_ixT (st_of hT) (atI_nat (j := 0) rfl))
  have lc := el_lcL (K := K) (tl := tl) (σ := σ) (H := H) (j := j) (vs := [j]) (t := tTest (tOp rEq (tOp (rIxT K) (tVar j) (tC (.int (if b then 1 else 0)))) (tVar a))) (te := tOp (rIxT K) (tVar j) (tC (.int (if c then 1 else 0)))) (xs := xs) (fun i => decide ((if b then (ps.getD i ("", "")).2 else (ps.getD i ("", "")).1) = nm)) (fun i => V.str (if c then (ps.getD i ("", "")).2 else (ps.getD i ("", "")).1)) hl (sq_of hx) (by omega) hj
    (fun i x H1 e1 hi => by
      obtain ⟨q0, T, hq0, ex, hT⟩ := pos hi
      rw [getD_at hq0]
      refine et_is (et_test (ev_op (ix b ex (e1 _ _ hT)) (ev_var (v := .str nm) (by rw [List.getElem?_set_ne haj.symm]; exact ha)) (rv_eq rfl))) ?_
      exact decide_eq_decide.mpr ⟨fun z => V.str.inj z, fun z => by rw [z]⟩)
    (fun i x H1 e1 hi _ => by
      obtain ⟨q0, T, hq0, ex, hT⟩ := pos hi
      rw [getD_at hq0]
      exact ix c ex (e1 _ _ hT))
  rw [lx, given_fm ps ("", "") (fun q => decide ((if b then q.2 else q.1) = nm)) (fun q => V.str (if c then q.2 else q.1))] at lc
  rw [List.map_map]
  exact lc
theorem filt_nd {ps : List Pr} (nd : ps.Nodup) (nm : Str) : (tgP ps nm).Nodup ∧ ((ps.filter fun q => decide (q.2 = nm)).map (·.1)).Nodup := by
  have go : ∀ {f : Pr → Bool} {h : Pr → Str}, (∀ a b, f a = true → f b = true → h a = h b → a = b) → ((ps.filter f).map h).Nodup := fun {f h} inj => by
    clear nm
    induction ps with
    | nil => exact List.nodup_nil
    | cons q r ih =>
      rw [List.nodup_cons] at nd
      rw [List.filter_cons]
      split
      · rename_i hf
        rw [List.map_cons, List.nodup_cons]
        refine ⟨fun m => ?_, ih nd.2⟩
        obtain ⟨z, hz, e⟩ := List.mem_map.mp m
        obtain ⟨h1, h2⟩ := List.mem_filter.mp hz
        exact nd.1 ((inj z q h2 hf e) ▸ h1)
      · exact ih nd.2
  refine ⟨go fun a b h1 h2 e => ?_, go fun a b h1 h2 e => ?_⟩
  · exact Prod.ext ((of_decide_eq_true h1).trans (of_decide_eq_true h2).symm) e
  · exact Prod.ext e ((of_decide_eq_true h1).trans (of_decide_eq_true h2).symm)
theorem tg_due {U : List Str} {g : List Row} {ps : List Pr} {nm : Str} (ok : GOk U g) (nd : ps.Nodup) (hm : ∀ q : Pr, q.2 ∈ tgS g q.1 ↔ q ∈ ps) : srtS (tgP ps nm) = tgS g nm := rise_eq ltS_irrefl ltS_trans (srtS_lt (filt_nd nd nm).1) (ok.up' nm) fun t => by
  rw [(srtS_perm _).mem_iff, mem_tgP]
  exact (hm (nm, t)).symm
theorem two_strs {xs ys : List Str} (h1 : ∀ x ∈ xs, isNameS x = true) (h2 : ∀ x ∈ ys, isNameS x = true) : SeqAt.shaped (.list [.list (xs.map PyData.str), .list (ys.map PyData.str)]) = true ∧ (PyData.list [.list (xs.map PyData.str), .list (ys.map PyData.str)]).canLay0 = true := by
  obtain ⟨a1, b1⟩ := lay_strs h1
  obtain ⟨a2, b2⟩ := lay_strs h2
  have l : (PyData.list [.list (xs.map PyData.str), .list (ys.map PyData.str)]).canLay0 = true := by
    rw [PyData.canLay0, PyData.canLayAll0, PyData.canLayAll0, PyData.canLayAll0, a1, a2]
    rfl
  refine ⟨?_, l⟩
  unfold SeqAt.shaped
  rw [l]
  refine decide_eq_true ?_
  rw [PyData.depth, PyData.depthAll, PyData.depthAll, PyData.depthAll]
  omega
end Cr
/-! the search by levels over rising targets: its paths rise, and each is the least one to its end -/
namespace Cr
open PySem
/-- lists of texts in order -/
def ltL : List Str → List Str → Prop
  | [], [] => False
  | [], _ :: _ => True
  | _ :: _, [] => False
  | x :: xs, y :: ys => ltS x y ∨ (x = y ∧ ltL xs ys)
/-- the shorter first, equally long ones in order -/
def sl (p q : List Str) : Prop := p.length < q.length ∨ (p.length = q.length ∧ ltL p q)
inductive IsPath (T : Str → List Str) (a : Str) : List Str → Prop
  | one : IsPath T a [a]
  | more {p : List Str} {t : Str} : IsPath T a p → t ∈ T (lastP p) → IsPath T a (p ++ [t])
section
variable {T : Str → List Str} {a : Str}
theorem IsPath.ne {p : List Str} (h : IsPath T a p) : p ≠ [] := by
  cases h with
  | one => exact List.cons_ne_nil _ _
  | more _ _ => exact List.append_ne_nil_of_right_ne_nil _ (List.cons_ne_nil _ _)
end
end Cr
/-! lists of names as data: their order, min, comprehensions that make them -/
/-! lists of names shown, lists of pairs sorted -/
namespace Cr
open PySem PySem.Spec PyProof.Rows L2 Evl
theorem fits_bool (b : Bool) : Fits (.bool b) := (sz_bool (b := 0) (m := 0)).fits (by decide) (by decide)
theorem sort_pD {H : Hp} {a : Addr} {ps : List Pr} {Q : VK} (h : Dt H (.ref a) (.list (ps.map pD))) (k : ∀ ys p, H p = none → DtAll H ys ((srtP ps).map pD) → Q (.ref p) (upd H p (.lst ys))) : rSortDt [.ref a] H Q := by
  obtain ⟨_, xs, e', hx, hd⟩ := dt_lst h
  cases e'
  refine ⟨a, xs, ps.map pD, rfl, hx, hd, fun d h1 d' h2 => ?_, .inl (fun d hd => ?_), fun d hd => ?_, fun ys q' zq hys => k ys q' zq (by rw [srtP_map] at hys; exact hys)⟩
  · obtain ⟨q, _, rfl⟩ := List.mem_map.mp h1
    obtain ⟨q', _, rfl⟩ := List.mem_map.mp h2
    rfl
  · obtain ⟨q, _, rfl⟩ := List.mem_map.mp hd
    exact ⟨_, _, rfl⟩
  · obtain ⟨q, _, rfl⟩ := List.mem_map.mp hd
    show 1 ≤ 5
    decide
theorem evd_sortP {te : TE} {σ : L2.St} {H : Hp} {ps : List Pr} (h : EvD te σ H (.list (ps.map pD))) : EvD (tCB rSortDt (tCons te tNil)) σ H (.list ((srtP ps).map pD)) := fun H1 e Q q =>
  h H1 e _ fun v H2 e2 hv => by
    obtain ⟨a, xs, rfl, hx, hd⟩ := dt_lst hv
    exact sort_pD hv fun ys p zp hys => q (.ref p) _ (e2.trans (Ex.new zp)) (.lst upd_same (DtAll.ex (Ex.new zp) hys))
abbrev rLenQ (K : PySem.W.Frag) : List V → Hp → VK → Prop := fun xs H Q => ∃ p ys, xs = [.ref p] ∧ (SqL K H p ys ∨ SqT K H p ys) ∧ Q (.int ys.length) H
theorem evd_pairs {C x : Addr} {A : NdA} {U : List Str} {g : List Row} {σ : L2.St} {H : Hp} {i : Nat} (h : σ[i]? = some (some (.ref x))) (nd : NdAt C H x A U g) : EvD (tMeth C "pairs" (spPairs C) [] E0 (tVar i) tNil) σ H (.list ((prs g).map pD)) := fun H1 e Q q =>
  ⟨.ref x, h, x, A.dx, _, rfl, (nd.ex e).ob, rfl, x, A, U, g, rfl, nd.ex e, fun l xs H2 zl e2 hl hd => q (.ref l) H2 e2 (.lst hl (DtAll.ex (wo_ex l H2) hd))⟩
theorem s_appNL {K : PySem.W.Frag} {ta te : TE} {σ : L2.St} {H : Hp} {D : Ends} {xs : List V} {v : V} (h1 : EvL ta σ H xs) (h : ∀ H1, Ev te σ H1 v) (hz : xs.length < 100000) (k : ∀ H1, Ex H H1 → D.nx σ H1) : tDrop (tBM K "list" rAppend ta (tCons te tNil)) D σ H :=
  h1 H (Ex.refl H) _ fun l H1 zl e1 hl => ⟨Or.inl ⟨rfl, xs, sq_of hl⟩, h H1 H1 (Ex.refl H1) _ fun H2 e2 => ⟨l, xs, v, rfl, rfl, e2 l _ hl, sz_lt hz, k _ (Ex.mut (e1.trans e2) zl)⟩⟩
theorem q_appNL {K : PySem.W.Frag} {ta te : TE} {tz : TS} {σ : L2.St} {H : Hp} {D : Ends} {xs : List V} {v : V} (h1 : EvL ta σ H xs) (h : ∀ H1, Ev te σ H1 v) (hz : xs.length < 100000) (k : ∀ H1, Ex H H1 → tz D σ H1) : tSeq (tDrop (tBM K "list" rAppend ta (tCons te tNil))) tz D σ H := s_appNL (D := { D with nx := tz D }) h1 h hz k
end Cr
/-! repr(o) by an own __repr__ that itself asks for texts of data -/
namespace Cr
open PySem PySem.Spec PyProof.Rows L2 Evl
/-- an own method called with the object alone -/
theorem self_call {X : Cx} {pins : List (Addr × Obj)} {σ : L2.St} {H : Hp} {s : Shared} {a f : Addr} {k : Nat} {fd : FuncData} {sp : Sp} {A : Around} {Q : VK} {R : Value → Shared → Prop} {E : Value → Shared → Prop}
    (F : FnG X.prog X.w X.K X.mg X.base CX0 k f fd ["self"] sp) (hb : Binds X.K fd ["self"] []) (hq : Quiet A) (hr : Room k A) (e0 : Env0 X.prog X.w X.K X.mg X.base A X.stack s H) (I : Inv X pins σ H s) (h : sp [.ref a] H Q E0)
    (k : ∀ v u H' s', Inv X pins σ H' s' → RelV v u → Q v H' → R u s') : wpAny (model X.prog X.w) A (call (.ref f) [.ref a]) R E s := by
  refine wpAny_call (codeAny_mono (F.goes A X.stack s H ⟨[.ref a], []⟩ [.ref a] [.ref a] Q E0 hq hr e0 (by
    have z := hb s [.ref a] I.kIn rfl
    simpa using z) (.cons rfl .nil) h) fun res s' z => ?_)
  match res, z with
  | .error _, z => exact z.elim
  | .ok .next, z => exact False.elim z
  | .ok .brk, z => exact False.elim z
  | .ok .cont, z => exact False.elim z
  | .ok (.ret u), z =>
    obtain ⟨v, H', I', rv, q⟩ := I.after z
    exact k v u H' s' I' rv q
def rReprO (C : Addr) (sp : Sp) : List V → Hp → VK → Prop := fun xs H Q => ∃ (a dx : Addr) (fs : List (Str × V)), xs = [.ref a] ∧ H a = some (.ins C dx fs) ∧ sp [.ref a] H (fun v H' => ∃ z : Str, v = .str z ∧ Q (.str z) H') E0
theorem call_reprO {X : Cx} {C f : Addr} {k : Nat} {fd : FuncData} {sp : Sp} (hL : PySem.W.findIn X.K (.ref C) "__repr__" = some (some (.ref f))) (iF : PySem.W.isFn X.K (.ref f) = true)
    (F : FnG X.prog X.w X.K X.mg X.base CX0 k f fd ["self"] sp) (hb : Binds X.K fd ["self"] []) (hq : Quiet X.A) (hr : Room (k + 1) X.A) : CallR X (.builtin "repr") (rReprO C sp) := by
  intro pins s σ H xs us Q I r h
  obtain ⟨a, dx, fs, rfl, ha, h⟩ := h
  obtain ⟨u, rfl, ru⟩ := vals1 r
  obtain rfl : u = Value.ref a := ru
  obtain ⟨mA, J, _⟩ := ins_get I.hok ha
  obtain ⟨od, J, _⟩ := J.look
  refine Calls.call_function_entry PySem.F.kind_repr PySem.F.plain_repr PySem.F.entry_repr (PySem.F.args_repr1 _) ?_
  unfold Builtin.«repr»
  refine wpAny_bind (m := oneArg "repr" _) (wpAny_pure ?_)
  refine wpAny_bind (m := cRoomFor _ _) (wpAny_cRoomFor (by have := hr.un; show X.A.units + 1 < _; omega) ?_)
  have look : PySem.W.Looks (model X.prog X.w) s.heap (specialOf (.ref a) "__repr__") (some (.ref f)) := J.type.andThen (PySem.W.looks_findIn I.kIn hL)
  refine wpAny_bind (look.at ?_)
  refine wpAny_bind (m := callSpecialIfBound? (.ref a) "__repr__") (PySem.W.ifBound_K I.kIn J hL iF (self_call F hb hq hr.in1 (Env0.in1 I.env0) I h ?_))
  rintro v u H' s' I' rv ⟨z, rfl, q⟩
  obtain ⟨t, rfl⟩ := rv
  refine wpAny_bind (wpAny_isInstance (T := "str") (b := true) (typeIs_str _ _ _) isSubtype_str_str ?_)
  exact wpAny_pure ⟨_, rfl, .str z, H', I', ⟨t, rfl⟩, q⟩
/-! ### str(o) by an own __str__ -/
def rStrO (C : Addr) (sp : Sp) : List V → Hp → VK → Prop := fun xs H Q => ∃ (a dx : Addr) (fs : List (Str × V)), xs = [.ref a] ∧ H a = some (.ins C dx fs) ∧ sp [.ref a] H (fun v H' => ∃ z : Str, v = .str z ∧ Q (.str z) H') E0
theorem call_strO {X : Cx} {C f : Addr} {k : Nat} {fd : FuncData} {sp : Sp} (hL : PySem.W.findIn X.K (.ref C) "__str__" = some (some (.ref f))) (iF : PySem.W.isFn X.K (.ref f) = true)
    (F : FnG X.prog X.w X.K X.mg X.base CX0 k f fd ["self"] sp) (hb : Binds X.K fd ["self"] []) (hq : Quiet X.A) (hr : Room (k + 2) X.A) : CallR X (.type "str") (rStrO C sp) := by
  intro pins s σ H xs us Q I r h
  obtain ⟨a, dx, fs, rfl, ha, h⟩ := h
  obtain ⟨u, rfl, ru⟩ := vals1 r
  obtain rfl : u = Value.ref a := ru
  obtain ⟨mA, J, _⟩ := ins_get I.hok ha
  obtain ⟨od, J, _⟩ := J.look
  refine PySem.W.kso_call (by have := hr.un; show X.A.units + 1 + 1 < _; omega) I.kIn J hL iF (self_call F hb hq hr.in1.in1 (Env0.in1 (Env0.in1 I.env0)) I h ?_)
  rintro v u H' s' I' rv ⟨z, rfl, q⟩
  obtain ⟨t, rfl⟩ := rv
  exact ⟨.str z, H', I', ⟨t, rfl⟩, q⟩
/-! ### f'..{e!r}..', e data at a place -/
def tFmtRD (te : TE) : TE := fun σ H Q => te σ H fun x H1 => ∃ (a : Addr) (d : PyData), x = .ref a ∧ Dt H1 (.ref a) d ∧ d.hasDict = false ∧ Fits d ∧ Q (.str d.shown) H1
theorem pe_fmtRD {X : Cx} {e : Expr} {te : TE} {pos : Pos} (hq : Quiet X.A) (hu : X.A.units + 64 < cLine) (he : PE X e te) : PE X (.FormattedValue e 114 none pos) (tFmtRD te) := by
  refine ⟨fun pins s σ H Q I h => ?_⟩
  refine wpAny_FormattedValue_repr (thn (he.run pins s σ H _ I h) fun v s1 hv => ?_)
  obtain ⟨x, H1, I1, r1, a, d, rfl, hd, nd, fit, q⟩ := hv
  obtain rfl : v = Value.ref a := r1
  obtain ⟨as, rd⟩ := (Dt.shown I1 hd rfl).1
  have dp := fit.deep
  refine pyReprObj_of_reads rd fit.show1 (fun z => by rw [nd] at z; cases z) hq (by omega) (fun _ _ z => z) (fun h' u tk hk => ?_) fit.size
  exact wpAny_formatField_str ⟨.str d.shown, H1, (I1.kept (t' := tk) hk).tok _, ⟨_, rfl⟩, q⟩ ⟨.str d.shown, H1, (I1.kept (t' := tk) hk).tok _, ⟨_, rfl⟩, q⟩ fit.size
end Cr
/-! graphs of needs: repr -/
namespace Cr
open PySem PySem.Spec PyProof.Rows L2 Evl
abbrev sNRepr : Stmt := inClass (topS 14) 4
theorem scNRepr : FnScope ["self"] ["self"] (defScope sNRepr) := ⟨rfl, rfl, rfl, by decide +kernel, rfl, by decide +kernel, by decide +kernel⟩
theorem nm_sz {b m : Nat} {x : Str} (h : isNameS x = true) (hb : 8 ≤ b) : Sz b m (.str x) := by
  unfold isNameS at h
  simp only [Bool.and_eq_true, decide_eq_true_eq] at h
  refine sz_str (by omega) fun c hc => ?_
  have y := List.all_eq_true.mp h.2 c (by simpa using hc)
  unfold isLow at y
  simp only [Bool.and_eq_true, decide_eq_true_eq] at y
  omega
theorem pr_sz {p : Pr} (h1 : isNameS p.1 = true) (h2 : isNameS p.2 = true) : Sz 18 1 (pD p) := sz_tuple (sza_cons (nm_sz h1 (Nat.le_refl 8)) (sza_cons (nm_sz h2 (Nat.le_refl 8)) (sza_nil (b := 0))))
theorem prs_fits {ps : List Pr} (h : ∀ p ∈ ps, isNameS p.1 = true ∧ isNameS p.2 = true) (l : ps.length ≤ 3844) : Fits (.list (ps.map pD)) := by
  refine (sz_list (sza_all (b := 18) (m := 1) fun d hd => ?_)).fits ?_ (by decide)
  · obtain ⟨p, hp, rfl⟩ := List.mem_map.mp hd
    exact pr_sz (h p hp).1 (h p hp).2
  · rw [List.length_map]
    omega
theorem Sz.small {b m : Nat} {d : PyData} (h : Sz b m d) (hb : b ≤ 100000) : d.shown.length ≤ 16000000 := by
  have z := PyData.shown_le_bulk 80 (by decide) d h.lf
  have y := h.bk
  omega
theorem prs_small {ps : List Pr} (h : ∀ p ∈ ps, isNameS p.1 = true ∧ isNameS p.2 = true) (l : ps.length ≤ 3844) : (PyData.list (ps.map pD)).shown.length ≤ 16000000 := by
  refine (sz_list (sza_all (b := 18) (m := 1) fun d hd => ?_)).small ?_
  · obtain ⟨p, hp, rfl⟩ := List.mem_map.mp hd
    exact pr_sz (h p hp).1 (h p hp).2
  · rw [List.length_map]
    omega
theorem prs_nodict (ps : List Pr) : (PyData.list (ps.map pD)).hasDict = false := by
  have go : ∀ ps : List Pr, PyData.hasDictAll (ps.map pD) = false := by
    intro ps
    induction ps with
    | nil => rfl
    | cons p r ih => rw [List.map_cons, PyData.hasDictAll, ih]; rfl
  rw [PyData.hasDict]
  exact go ps
def reprG (g : List Row) : Str := ((Str.empty ++ "Needs(") ++ (PyData.list ((prs g).map pD)).shown) ++ ")"
def spNRepr (C : Addr) : Sp := fun vs H Q _ => ∃ x A U g, vs = [.ref x] ∧ NdAt C H x A U g ∧ ∀ H', Ex H H' → Q (.str (reprG g)) H'
section
variable {P : Program} {w : World} {K : PySem.W.Frag} {mg : Str → Option Value} {base : Heap}
theorem ok_nrepr {f C : Addr} {fd : FuncData} {k : Nat} (F : Fun K "__repr__" "Needs.__repr__" sNRepr f fd) (T : NdC K mg C) (h7 : HasM P w K mg base CX0 k C "pairs" ["self"] (spPairs C)) : FnG P w K mg base CX0 (k + 1) f fd ["self"] (spNRepr C) := by
  obtain ⟨f7, d7, G7, b7, m7⟩ := h7.ex
  refine okG F scNRepr (fun vs H Q E h => by obtain ⟨_, _, _, _, rfl, _⟩ := h; rfl) (fun cdv A outer s H vs Q E hq hr h => ?_)
  obtain ⟨x, A', U, g, rfl, nd, q⟩ := h
  refine ⟨_, pss_one (ps_ret (pe_joined (PJ.cons pe_str (PJ.cons (pe_fmtRD hq hr.units (pe_meth0 (E := E0) (pv 0) T.cl m7 G7 hr b7 .nil pass0)) (PJ.cons pe_str PJ.nil))))), ?_⟩
  have nm : ∀ q ∈ prs g, isNameS q.1 = true ∧ isNameS q.2 = true := fun q hq => nd.ok.name ((mem_prs nd.ok).mp hq)
  have ft := prs_fits nm (prs_len nd.ok)
  have sz : (PyData.list ((prs g).map pD)).shown.length ≤ 16000000 := prs_small nm (prs_len nd.ok)
  have l1 : (Str.empty ++ ("Needs(" : Str)).length = 6 := by decide +kernel
  have l2 : ((")" : Str)).length = 1 := by decide +kernel
  refine ⟨_, rfl, by rw [sizeLine_eq]; decide +kernel, ⟨.ref x, rfl, x, A'.dx, _, rfl, nd.ob, rfl, x, A', U, g, rfl, nd, fun l xs H' zl e' hl hd => ⟨l, .list ((prs g).map pD), rfl, .lst hl (DtAll.ex (wo_ex _ _) hd), prs_nodict _, ft, _, rfl, ?_, _, rfl, ?_, q H' e'⟩⟩⟩
  · rw [Str.length_append, l1, sizeLine_eq]
    omega
  · rw [Str.length_append, Str.length_append, l1, l2, sizeLine_eq]
    omega
end
end Cr
/-! graphs of needs: str -/
namespace Cr
open PySem PySem.Spec PyProof.Rows L2 Evl
abbrev sNStr : Stmt := inClass (topS 14) 5
abbrev nNStr : List Str := ["self", "source", "target"]
theorem scNStr : FnScope nNStr ["self"] (defScope sNStr) := ⟨rfl, rfl, rfl, by decide +kernel, rfl, by decide +kernel, by decide +kernel⟩
def txtP (q : Pr) : Str := ((Str.empty ++ q.1) ++ ":") ++ q.2
def strG (g : List Row) : Str := Txt.join " " ((prs g).map txtP)
def spNStr (C : Addr) : Sp := fun vs H Q _ => ∃ x A U g, vs = [.ref x] ∧ NdAt C H x A U g ∧ ∀ H', Ex H H' → Q (.str (strG g)) H'
abbrev teStr : TE := fun σ H Q => tJs [tFmt (tVar 1), tC (.str ":"), tFmt (tVar 2)] Str.empty σ H fun out H1 => Q (.str out) H1
theorem nm_len {x : Str} (h : isNameS x = true) : x.length ≤ 8 := by
  unfold isNameS at h
  simp only [Bool.and_eq_true, decide_eq_true_eq] at h
  omega
theorem txt_len {q : Pr} (h1 : isNameS q.1 = true) (h2 : isNameS q.2 = true) : (txtP q).length ≤ 17 := by
  have a := nm_len h1
  have b := nm_len h2
  have l0 : Str.empty.length = 0 := rfl
  have l1 : ((":" : Str)).length = 1 := by decide +kernel
  unfold txtP
  rw [Str.length_append, Str.length_append, Str.length_append, l0, l1]
  omega
theorem sum_le {ws : List Str} {b : Nat} (h : ∀ w ∈ ws, w.length ≤ b) : (ws.map (·.length)).sum ≤ ws.length * b := by
  induction ws with
  | nil => exact Nat.zero_le _
  | cons w r ih =>
    rw [List.map_cons, List.sum_cons, List.length_cons, Nat.add_mul, Nat.one_mul]
    have a := h w List.mem_cons_self
    have c := ih fun z hz => h z (List.mem_cons_of_mem _ hz)
    omega
section
variable {P : Program} {w : World} {K : PySem.W.Frag} {mg : Str → Option Value} {base : Heap}
theorem ok_nstr {f C : Addr} {fd : FuncData} {k : Nat} (F : Fun K "__str__" "Needs.__str__" sNStr f fd) (T : NdC K mg C) (h7 : HasM P w K mg base CX0 k C "pairs" ["self"] (spPairs C)) : FnG P w K mg base CX0 (k + 1) f fd ["self"] (spNStr C) := by
  obtain ⟨f7, d7, G7, b7, m7⟩ := h7.ex
  refine okG F scNStr (fun vs H Q E h => by obtain ⟨_, _, _, _, rfl, _⟩ := h; rfl) (fun cdv A outer s H vs Q E hq hr h => ?_)
  obtain ⟨x, A', U, g, rfl, nd, q⟩ := h
  refine ⟨_, pss_one (ps_ret (pe_join pe_str (pe_lc (own := [("source", 1), ("target", 2)]) (g := gTup K 2 (gCons (gName 1) (gCons (gName 2) gNil))) (tt := tYes) (te := teStr) rfl scNStr.nd (pi_list (pe_meth0 (E := E0) (pv 0) T.cl m7 G7 hr b7 .nil pass0)) (blkOk_by (own := [("source", 1), ("target", 2)]) (N := nNStr) (sc := defScope sNStr) (by decide +kernel))
    (fun _ _ _ _ _ => by exact pg_tup rfl (pgs_cons (pg_name (i := 1) scNStr.nd rfl (Or.inl rfl)) (pgs_cons (pg_name (i := 2) scNStr.nd rfl (Or.inl rfl)) pgs_nil))) (fun _ _ _ _ _ => pts_nil) (fun _ _ _ _ _ => by exact pe_joined (PJ.cons (pe_fmt (pv 1)) (PJ.cons pe_str (PJ.cons (pe_fmt (pv 2)) PJ.nil))))))), ?_⟩
  have nm : ∀ q ∈ prs g, isNameS q.1 = true ∧ isNameS q.2 = true := fun q hq => nd.ok.name ((mem_prs nd.ok).mp hq)
  have pl := prs_len nd.ok
  refine ⟨⟨" ", rfl⟩, .ref x, rfl, x, A'.dx, _, rfl, nd.ob, rfl, x, A', U, g, rfl, nd, fun l xs H1 zl e1 hl hd => ?_⟩
  have lx := dtAll_len hd
  rw [List.length_map] at lx
  have lc := el_lcW (wi := iList K (tC (.ref l))) (g := gTup K 2 (gCons (gName 1) (gCons (gName 2) gNil))) (tt := tYes) (te := teStr) (vs := [1, 2]) (σ := [some (.ref x), none, none]) (H := H1) (n := xs.length) (Y := YAt xs) (fun _ => true) (fun i => .str (((prs g).map txtP).getD i "")) (by omega)
    (fun H2 e2 R r => ⟨l, rfl, ⟨xs, sq_of (e2 _ _ hl)⟩, r H2 _ _ (walk_list (K := K) (a := l) (xs := xs)) (fun _ _ e z => ex_l e z) (Ex.refl H2) (sq_of (e2 _ _ hl))⟩)
    (fun i y H2 H3 e2 hi hy => by
      obtain ⟨rfl, hy⟩ := hy
      obtain ⟨d, hd1, hd2⟩ := dtAll_at hd hy
      rw [List.getElem?_map] at hd1
      obtain ⟨q0, hq0, rfl⟩ : ∃ q0, (prs g)[i]? = some q0 ∧ pD q0 = d := by
        cases hh : (prs g)[i]? with
        | none => rw [hh] at hd1; cases hd1
        | some r => rw [hh] at hd1; exact ⟨r, rfl, Option.some.inj hd1⟩
      obtain ⟨n1, n2⟩ := nm q0 (List.mem_of_getElem? hq0)
      have a1 := nm_len n1
      have a2 := nm_len n2
      have gd : ((prs g).map txtP).getD i "" = txtP q0 := by
        rw [List.getD_eq_getElem?_getD, List.getElem?_map, hq0]
        rfl
      rw [gd]
      cases hd2 with
      | @tup T0 _ _ hT0 hv =>
      cases hv with
      | cons hva hv =>
      cases hv with
      | cons hvb hv =>
      cases hv
      cases dt_str hva
      cases dt_str hvb
      have hT2 := e2 _ _ (wo_ex _ _ _ _ hT0)
      refine ⟨Ex.refl _, [some (.ref x), some (.str q0.1), some (.str q0.2)], rfl, fun R r => ⟨T0, [.str q0.1, .str q0.2], rfl, st_of hT2, rfl, .str q0.1, [.str q0.2], rfl, .str q0.2, [], rfl, rfl, r⟩, fun H4 _ Q q => q H4 (Ex.refl H4), fun _ H4 e4 Q q => ?_⟩
      have l0 : Str.empty.length = 0 := rfl
      have l1 : ((":" : Str)).length = 1 := by decide +kernel
      exact ⟨.str q0.1, rfl, .inl ⟨q0.1, rfl, by rw [sizeLine_eq]; omega, q0.1, rfl, by rw [Str.length_append, l0, sizeLine_eq]; omega, ":", rfl, by rw [Str.length_append, Str.length_append, l0, l1, sizeLine_eq]; omega, .str q0.2, rfl, .inl ⟨q0.2, rfl, by rw [sizeLine_eq]; omega, q0.2, rfl, by rw [Str.length_append, Str.length_append, Str.length_append, l0, l1, sizeLine_eq]; omega, q H4 (Ex.refl H4)⟩⟩⟩)
  have eg : given xs.length (fun _ => true) (fun i => V.str (((prs g).map txtP).getD i "")) = ((prs g).map txtP).map V.str := by
    have ll : xs.length = ((prs g).map txtP).length := by rw [List.length_map]; exact lx
    rw [ll, given_all]
    refine List.ext_getElem? fun i => ?_
    rw [List.getElem?_map, List.getElem?_map]
    by_cases hi : i < ((prs g).map txtP).length
    · rw [List.getElem?_range hi, List.getElem?_eq_getElem hi]
      show some (V.str (((prs g).map txtP).getD i "")) = _
      rw [List.getD_eq_getElem?_getD, List.getElem?_eq_getElem hi]
      rfl
    · rw [List.getElem?_eq_none (by rw [List.length_range]; omega), List.getElem?_eq_none (by omega)]
      rfl
  rw [eg] at lc
  refine lc H1 (Ex.refl H1) (fun v H' => ∃ a p, ∃ ys : List Str, V.str " " = .str a ∧ [v] = [.ref p] ∧ (SqL K H' p (ys.map V.str) ∨ SqT K H' p (ys.map V.str)) ∧ (ys.map (·.length)).sum + ys.length * a.length ≤ 16777216 ∧ Q (.str (Txt.join a ys)) H') fun L H2 zL e2 hL => ?_
  refine ⟨" ", L, (prs g).map txtP, rfl, rfl, .inl (sq_of hL), ?_, q H2 (e1.trans e2)⟩
  have su := sum_le (ws := (prs g).map txtP) (b := 17) fun w hw => by
    obtain ⟨p, hp, rfl⟩ := List.mem_map.mp hw
    exact txt_len (nm p hp).1 (nm p hp).2
  have l1 : ((" " : Str)).length = 1 := by decide +kernel
  rw [l1]
  rw [List.length_map] at su ⊢
  omega
end
end Cr
/-! new pairs in a comprehension over any walk; parts of lists of names -/
namespace Cr
open PySem PySem.Spec PyProof.Rows L2 Evl
theorem pD_refB {H : Hp} {v : V} {q : Pr} (h : Dt H v (pD q)) : ∃ T, v = .ref T ∧ H T = some (.tup [.str q.1, .str q.2]) := by
  cases h with
  | @tup T _ _ hT hv =>
  cases hv with
  | cons hva hv =>
  cases hv with
  | cons hvb hv =>
  cases hv
  cases dt_str hva
  cases dt_str hvb
  exact ⟨T, rfl, hT⟩
end Cr
/-! a graph's own texts, as the laws write them -/
namespace Cr
open PySem PySem.Spec PyProof.Rows L2 Evl
theorem empty_app (x : Str) : Str.empty ++ x = x := by
  cases x with
  | mk c =>
    show (⟨#[] ++ c⟩ : Str) = ⟨c⟩
    rw [Array.empty_append]
theorem txtP_is (q : Pr) : txtP q = (q.1 ++ ":") ++ q.2 := by unfold txtP; rw [empty_app]
theorem reprG_is (g : List Row) : reprG g = (("Needs(" : Str) ++ (PyData.list ((prs g).map pD)).shown) ++ ")" := by unfold reprG; rw [empty_app]
structure HasLenN (P : Program) (w : World) (K : PySem.W.Frag) (mg : Str → Option Value) (base : Heap) (k : Nat) (C : Addr) (sp : Sp) : Prop where
  ex : ∃ f fd, FnOk P w K mg base CX0 k f fd ["self"] sp ∧ Binds K fd ["self"] [] ∧ PySem.W.findIn K (.ref C) "__len__" = some (some (.ref f)) ∧ PySem.W.typeIn K (.ref f) = some (.type "function")
/-- an own text of the object: __repr__, __str__ -/
structure HasTxt (P : Program) (w : World) (K : PySem.W.Frag) (mg : Str → Option Value) (base : Heap) (k : Nat) (C : Addr) (m : Str) (sp : Sp) : Prop where
  ex : ∃ f fd, FnG P w K mg base CX0 k f fd ["self"] sp ∧ Binds K fd ["self"] [] ∧ PySem.W.findIn K (.ref C) m = some (some (.ref f)) ∧ PySem.W.isFn K (.ref f) = true
abbrev rCatS : R2 := fun x y H Q => ∃ i j, x = .str i ∧ y = .str j ∧ i.length + j.length ≤ sizeLine ∧ Q (.str (i ++ j)) H
theorem rv_catS {H : Hp} {i j : Str} (h : i.length + j.length ≤ 16777216) : RV rCatS (.str i) (.str j) H (.str (i ++ j)) := fun H1 _ Q q => ⟨i, j, rfl, rfl, by rw [sizeLine_eq]; exact h, q H1 (Ex.refl H1)⟩
abbrev rJoinT (K : PySem.W.Frag) : V → List V → Hp → VK → Prop := fun x xs H Q => ∃ a p, ∃ ys : List Str, x = .str a ∧ xs = [.ref p] ∧ (SqL K H p (ys.map V.str) ∨ SqT K H p (ys.map V.str)) ∧ (ys.map (·.length)).sum + ys.length * a.length ≤ 16777216 ∧ Q (.str (Txt.join a ys)) H
theorem ev_join {K : PySem.W.Frag} {te : TE} {σ : L2.St} {H : Hp} {a : Str} {ys : List Str} (h : EvL te σ H (ys.map V.str)) (hz : (ys.map (·.length)).sum + ys.length * a.length ≤ 16777216) : Ev (tM1 (rJoinT K) (tC (.str a)) te) σ H (.str (Txt.join a ys)) := fun H1 e Q q =>
  ⟨⟨a, rfl⟩, h H1 e _ fun p H2 zp e2 hp => ⟨a, p, ys, rfl, rfl, .inl (sq_of hp), hz, q H2 e2⟩⟩
/-- source:target, pair by pair, over a list of pairs -/
theorem el_txts {K : PySem.W.Frag} {tl : TE} {σ : L2.St} {H : Hp} {i j : Nat} {v : V} {qs : List Pr} (hl : EvD tl σ H (.list (qs.map pD))) (nm : ∀ q ∈ qs, isNameS q.1 = true ∧ isNameS q.2 = true) (hz : qs.length ≤ 40000) (hij : i ≠ j)
    (hw : ∀ a b, wipe (((wipe σ [i, j]).set i (some a)).set j (some b)) [i, j] = wipe σ [i, j]) (hi : ∀ a b, (((wipe σ [i, j]).set i (some a)).set j (some b))[i]? = some (some a)) (hj : ∀ a b, (((wipe σ [i, j]).set i (some a)).set j (some b))[j]? = some (some b)) :
    EvL (tLc (iList K tl) (gTup K 2 (gCons (gName i) (gCons (gName j) gNil))) tYes (tOp rCatS (tOp rCatS (tVar i) (tC (.str ":"))) (tVar j)) [i, j]) σ H ((qs.map txtP).map V.str) := fun H0 e0 Q' q' => by
  refine hl H0 e0 _ fun v H1 e1 hv => ?_
  obtain ⟨l2, ys, rfl, hx, hd7⟩ := dt_lst hv
  have lx := dtAll_len hd7
  rw [List.length_map] at lx
  have lc := el_lcW (wi := iList K (tC (.ref l2))) (g := gTup K 2 (gCons (gName i) (gCons (gName j) gNil))) (tt := tYes) (te := tOp rCatS (tOp rCatS (tVar i) (tC (.str ":"))) (tVar j)) (vs := [i, j]) (σ := σ) (H := H1) (n := ys.length) (Y := YAt ys) (fun _ => true) (fun i => .str ((qs.map txtP).getD i "")) (by omega)
     (fun H2 e2 R r => ⟨l2, rfl, ⟨ys, sq_of (e2 _ _ hx)⟩, r H2 _ _ (walk_list (K := K) (a := l2) (xs := ys)) (fun _ _ e z => ex_l e z) (Ex.refl H2) (sq_of (e2 _ _ hx))⟩)
     (fun i' y H2 H3 e2 hi' hy => by
       obtain ⟨rfl, hy⟩ := hy
       obtain ⟨d, hd1, hd2⟩ := dtAll_at hd7 hy
       rw [List.getElem?_map] at hd1
       obtain ⟨q0, hq0, rfl⟩ : ∃ q0, qs[i']? = some q0 ∧ pD q0 = d := by
         cases hh : qs[i']? with
         | none => rw [hh] at hd1; cases hd1
         | some r => rw [hh] at hd1; exact ⟨r, rfl, Option.some.inj hd1⟩
       obtain ⟨n1, n2⟩ := nm q0 (List.mem_of_getElem? hq0)
       have a1 := nm_len n1
       have a2 := nm_len n2
       have gd : (qs.map txtP).getD i' "" = txtP q0 := by
         rw [List.getD_eq_getElem?_getD, List.getElem?_map, hq0]
         rfl
       rw [gd, txtP_is]
       obtain ⟨T0, rfl, hT0⟩ := pD_refB hd2
       have hT2 := e2 _ _ hT0
       have l1 : ((":" : Str)).length = 1 := by decide +kernel
       exact ⟨Ex.refl _, ((wipe σ [i, j]).set i (some (.str q0.1))).set j (some (.str q0.2)), hw _ _, fun R r => ⟨T0, [.str q0.1, .str q0.2], rfl, st_of hT2, rfl, .str q0.1, [.str q0.2], rfl, .str q0.2, [], rfl, rfl, r⟩, fun H4 _ Q q => q H4 (Ex.refl H4), fun _ => ev_op (ev_op (ev_var (hi _ _)) ev_c (rv_catS (by rw [l1]; omega))) (ev_var (hj _ _)) (rv_catS (by rw [Str.length_append, l1]; omega))⟩)
  have eg : given ys.length (fun _ => true) (fun i => V.str ((qs.map txtP).getD i "")) = (qs.map txtP).map V.str := by
    have ll : ys.length = (qs.map txtP).length := by rw [List.length_map]; exact lx
    have z := given_fm (qs.map txtP) "" (fun _ => true) V.str
    rw [← ll] at z
    rw [z, List.filter_eq_self.mpr fun _ _ => rfl]
  rw [eg] at lc
  exact lc H1 (Ex.refl H1) Q' fun L8 H8 zL8 e8 hL8 => q' L8 H8 (fresh_back e1 zL8) (e1.trans e8) hL8
section
variable {C x : Addr} {A : NdA} {U : List Str} {g : List Row} {σ : L2.St} {H : Hp} {i : Nat}
theorem ev_reprO (h : σ[i]? = some (some (.ref x))) (nd : NdAt C H x A U g) : Ev (tCB (rReprO C (spNRepr C)) (tCons (tVar i) tNil)) σ H (.str (reprG g)) := fun H1 e Q q => ⟨.ref x, h, x, A.dx, _, rfl, (nd.ex e).ob, x, A, U, g, rfl, nd.ex e, fun H' e' => ⟨_, rfl, q H' e'⟩⟩
theorem ev_strO (h : σ[i]? = some (some (.ref x))) (nd : NdAt C H x A U g) : Ev (tCB (rStrO C (spNStr C)) (tCons (tVar i) tNil)) σ H (.str (strG g)) := fun H1 e Q q => ⟨.ref x, h, x, A.dx, _, rfl, (nd.ex e).ob, x, A, U, g, rfl, nd.ex e, fun H' e' => ⟨_, rfl, q H' e'⟩⟩
theorem ev_lenO (h : σ[i]? = some (some (.ref x))) (nd : NdAt C H x A U g) (hz : (prs g).length ≤ 100000) : Ev (tCB (rLenO C (spNLen C)) (tCons (tVar i) tNil)) σ H (.int ((prs g).length : Int)) := fun H1 e Q q => ⟨.ref x, h, x, A.dx, _, rfl, (nd.ex e).ob, x, A, U, g, rfl, nd.ex e, fun H' e' => ⟨_, rfl, hz, q H' e'⟩⟩
end
end Cr
/-! graphs of needs: the sources of a name -/
namespace Cr
open PySem PySem.Spec PyProof.Rows L2 Evl
abbrev sNSrc : Stmt := inClass (topS 14) 12
theorem scNSrc : FnScope nNSrc ["self", "name"] (defScope sNSrc) := ⟨rfl, rfl, rfl, by decide +kernel, rfl, by decide +kernel, by decide +kernel⟩
section
variable {P : Program} {w : World} {K : PySem.W.Frag} {mg : Str → Option Value} {base : Heap}
theorem ok_sources {f C : Addr} {fd : FuncData} {k : Nat} (F : Fun K "sources" "Needs.sources" sNSrc f fd) (B : Blt mg) (T : NdC K mg C) (h1 : HasM P w K mg base CX0 k C "is_need" ["self", "source", "target"] (spIsNeed C)) : FnOk P w K mg base CX0 (k + 1) f fd ["self", "name"] (spSources C) := by
  obtain ⟨f1, d1, G1, b1, m1⟩ := h1.ex
  refine F.ok scNSrc (fun vs H Q E h => by obtain ⟨_, _, _, _, _, _, rfl, _⟩ := h; rfl) (fun cdv A outer s H vs Q E hr h => ?_)
  obtain ⟨x, v, d, A', U, g, rfl, nd, hd, hs, q⟩ := h
  refine ⟨_, pss_one (ps_ret (pe_lc (own := [("source", 2)]) (g := gName 2) (tt := tB (tMeth C "is_need" (spIsNeed C) [] E0 (tVar 0) (tCons (tVar 2) (tCons (tVar 1) tNil)))) (te := tVar 2) rfl scNSrc.nd (pi_list (pe_callB (call_sortedD rfl) (by rfl) B.sorted bSorted (pa_cons (pe_fld (pv 0) rfl) pa_nil))) (blkOk_by (own := [("source", 2)]) (N := nNSrc) (sc := defScope sNSrc) (by decide +kernel))
    (fun _ _ _ _ _ => pg_name (i := 2) scNSrc.nd rfl (Or.inl rfl)) (fun _ _ _ _ _ => by exact pts_one (pt_val (pe_meth (E := E0) (pv 0) T.cl m1 G1 hr b1 .nil pass0 (pa_cons (pv 2) (pa_cons (pv 1) pa_nil))))) (fun _ _ _ _ _ => pv 2))), ?_⟩
  have lc := el_lcW (wi := iList K (tCB rSrtD (tCons (tFld K (tVar 0) "needed") tNil))) (g := gName 2) (tt := tB (tMeth C "is_need" (spIsNeed C) [] E0 (tVar 0) (tCons (tVar 2) (tCons (tVar 1) tNil)))) (te := tVar 2) (vs := [2])
    (σ := [some (.ref x), some v, none]) (H := H) (n := (srcs g).length) (Y := YAt ((srcs g).map V.str)) (fun i => isNd g (.str ((srcs g).getD i "")) d) (fun i => .str ((srcs g).getD i "")) (by have := srcs_len nd.ok; omega)
    (fun H1 e1 R r => el_srcs T (nd.ex e1) (ev_var rfl) H1 (Ex.refl H1) _ fun p H2 zp e2 hp => ⟨p, rfl, ⟨_, sq_of hp⟩, r H2 _ _ (by have z := walk_list (K := K) (a := p) (xs := (srcs g).map V.str); rw [List.length_map] at z; exact z) (fun _ _ e z => ex_l e z) e2 (sq_of hp)⟩)
    (fun i y H1 H2 e1 hi hy => by
      obtain ⟨rfl, hy⟩ := hy
      have ey : y = .str ((srcs g).getD i "") := by
        rw [List.getElem?_map, List.getElem?_eq_getElem hi] at hy
        rw [List.getD_eq_getElem?_getD, List.getElem?_eq_getElem hi]
        exact (Option.some.inj hy).symm
      subst ey
      have mem : (srcs g).getD i "" ∈ srcs g := by
        rw [List.getD_eq_getElem?_getD, List.getElem?_eq_getElem hi]
        exact List.getElem_mem hi
      exact ⟨Ex.refl _, [some (.ref x), some v, some (.str ((srcs g).getD i ""))], rfl, fun R r => r, et_B (ev_meth (ev_var rfl) (e1 _ _ nd.ob) rfl (ea_cons (ev_var rfl) (ea_cons (ev_var rfl) ea_nil)) (spv_isNeed (nd.ex e1) (.str _) (Dt.ex e1 hd) (sm_name (srcs_name nd.ok mem)) hs)), fun _ => ev_var rfl⟩)
  have eg : given (srcs g).length (fun i => isNd g (.str ((srcs g).getD i "")) d) (fun i => V.str ((srcs g).getD i "")) = (srcD g d).map V.str := by
    unfold given srcD
    have e1 : srcs g = (List.range (srcs g).length).map fun i => (srcs g).getD i "" := by
      refine List.ext_getElem? fun i => ?_
      rw [List.getElem?_map]
      by_cases hi : i < (srcs g).length
      · rw [List.getElem?_range hi, List.getElem?_eq_getElem hi]
        show _ = some ((srcs g).getD i "")
        rw [List.getD_eq_getElem?_getD, List.getElem?_eq_getElem hi]
        rfl
      · rw [List.getElem?_eq_none (by omega), List.getElem?_eq_none (by rw [List.length_range]; omega)]
        rfl
    conv => rhs; rw [e1, List.filter_map, List.map_map]
    rfl
  rw [eg] at lc
  exact s_retL lc q
end
end Cr
/-! graphs of needs: made, recorded, all of a source deleted -/
namespace Cr
open PySem PySem.Spec PyProof.Rows L2 Evl
abbrev sNInit : Stmt := inClass (topS 14) 0
abbrev sNRec : Stmt := inClass (topS 14) 7
theorem scNInit : FnScope ["self"] ["self"] (defScope sNInit) := ⟨rfl, rfl, rfl, by decide +kernel, rfl, by decide +kernel, by decide +kernel⟩
theorem scNRec : FnScope ["self", "source", "target"] ["self", "source", "target"] (defScope sNRec) := ⟨rfl, rfl, rfl, by decide +kernel, rfl, by decide +kernel, by decide +kernel⟩
def spNInit (C : Addr) : Sp := fun vs H Q _ => ∃ x dx, vs = [.ref x] ∧ H x = some (.ins C dx []) ∧ ∀ dd H', H dd = none → dd ≠ x → H' = upd (upd H dd (.dK [])) x (.ins C dx [("needed", .ref dd)]) → Q .non H'
/-- recorded: new or not, or a value that is no name -/
def spRecord (C CN : Addr) (n : Nat) : Sp := fun vs H Q E => ∃ x v u d e A U g, vs = [.ref x, v, u] ∧ NdAt C H x A U g ∧ Dt H v d ∧ Dt H u e ∧ sm d = true ∧ sm e = true ∧ cpyTo n d ∧ cpyTo n e ∧
  (isName d = false → ∀ dx H', Rsd1 H H' dx "value" d → E (.ref CN) (some dx) H') ∧ (isName d = true → isName e = false → ∀ dx H', Rsd1 H H' dx "value" e → E (.ref CN) (some dx) H') ∧
  (isName d = true → isName e = true → ∃ s t, d = .str s ∧ e = .str t ∧ s ∈ U ∧ t ∈ U ∧ (t ∈ tgS g s → ∀ H', Ex H H' → Q (.bl false) H') ∧
    (t ∉ tgS g s → ∀ l H', H l = none → But [A.dd] H H' → NdAt C H' x A U (putG g ⟨s, l, srtS (tgS g s ++ [t])⟩) → Q (.bl true) H'))
def dropG (g : List Row) (s : Str) : List Row := g.filter fun r => decide (r.s ≠ s)
theorem dropK_row (g : List Row) (s : Str) : dropK (g.map kvR) (Sum.inr s) = (dropG g s).map kvR := by
  unfold dropK dropG
  rw [List.filter_map]
  congr 1
  refine List.filter_congr fun r _ => ?_
  show decide ((Sum.inr r.s : Key) ≠ Sum.inr s) = decide (r.s ≠ s)
  exact decide_eq_decide.mpr ⟨fun h e => h (by rw [e]), fun h e => h (Sum.inr.inj e)⟩
theorem drop_ok {U : List Str} {g : List Row} (h : GOk U g) (s : Str) : GOk U (dropG g s) := by
  have m : ∀ {r : Row}, r ∈ dropG g s → r ∈ g := fun hr => (List.mem_filter.mp hr).1
  exact ⟨h.un, h.uf, List.Nodup.sublist (List.Sublist.map _ List.filter_sublist) h.keys, List.Nodup.sublist (List.Sublist.map _ List.filter_sublist) h.ads, fun r hr => h.nm r (m hr), fun r hr => h.ne r (m hr), fun r hr => h.up r (m hr), fun r hr => h.tn r (m hr)⟩
theorem rowOf_drop {g : List Row} {s : Str} (s' : Str) : rowOf (dropG g s) s' = if s' = s then none else rowOf g s' := by
  unfold rowOf dropG
  rw [List.find?_filter]
  by_cases h : s' = s
  · rw [if_pos h, List.find?_eq_none]
    intro r _ z
    rw [decide_eq_true_eq] at z
    obtain ⟨z1, z2⟩ := z
    have a := of_decide_eq_true z1
    have b := of_decide_eq_true z2
    exact a (b.trans h)
  · rw [if_neg h]
    congr 1
    funext r
    by_cases e : r.s = s'
    · rw [decide_eq_true e]
      refine decide_eq_true ⟨decide_eq_true fun z => h (e.symm.trans z), ?_⟩
      first | rfl | exact decide_eq_true e
    · rw [decide_eq_false e]
      exact decide_eq_false fun z => absurd z.2 Bool.false_ne_true
theorem tgS_drop {g : List Row} {s : Str} (s' : Str) : tgS (dropG g s) s' = if s' = s then [] else tgS g s' := by
  unfold tgS
  rw [rowOf_drop]
  by_cases h : s' = s
  · rw [if_pos h, if_pos h]
  · rw [if_neg h, if_neg h]
def spDelAll (C : Addr) : Sp := fun vs H Q _ => ∃ x v d A U g, vs = [.ref x, v] ∧ NdAt C H x A U g ∧ Dt H v d ∧ sm d = true ∧ (tgD g d = [] → ∀ H', Ex H H' → Q (.int 0) H') ∧
  (∀ s, d = .str s → tgS g s ≠ [] → ∀ H', But [A.dd] H H' → NdAt C H' x A U (dropG g s) → Q (.int ((tgS g s).length : Int)) H')
theorem srt_new {ts : List Str} {t : Str} (h : ts.Pairwise ltS) (n : t ∉ ts) : (srtS (ts ++ [t])).Pairwise ltS := srtS_lt (List.nodup_append.mpr ⟨rise_nodup h, List.pairwise_singleton _ _, fun a ha b hb e => n (by rw [List.mem_singleton.mp hb] at e; exact e ▸ ha)⟩)
section
variable {P : Program} {w : World} {K : PySem.W.Frag} {mg : Str → Option Value} {base : Heap}
theorem ok_ninit {f C : Addr} {fd : FuncData} {k : Nat} (F : Fun K "__init__" "Needs.__init__" sNInit f fd) (T : NdC K mg C) : FnOk P w K mg base CX0 (k + 1) f fd ["self"] (spNInit C) := by
  refine F.ok scNInit (fun vs H Q E h => by obtain ⟨_, _, rfl, _⟩ := h; rfl) (fun cdv A outer s H vs Q E hr h => ?_)
  obtain ⟨x, dx, rfl, hx, q⟩ := h
  refine ⟨_, pss_one (ps_fld (pv 0) pe_dnewK rfl), ?_⟩
  refine fun dd zd => ?_
  have n : dd ≠ x := fun e => by rw [e, hx] at zd; cases zd
  exact ⟨.ref x, rfl, x, C, dx, [], rfl, by rw [upd_ne n.symm]; exact hx, T.cl, T.nN, by show 0 < 1000; decide, q dd _ zd n rfl⟩
theorem ok_record {f C CN : Addr} {fd : FuncData} {k n : Nat} (F : Fun K "record" "Needs.record" sNRec f fd) (B : Blt mg) (T : NdC K mg C) (h0 : HasE P w K mg base k "check_name" ["value"] (spCheckN CN n)) (h1 : HasO P w K mg base k "bare_word" ["word"] spBareW) (h2 : HasM P w K mg base CX0 k C "targets" ["self", "name"] (spTargets C)) (h3 : HasM P w K mg base CX0 k C "is_need" ["self", "source", "target"] (spIsNeed C)) :
    FnOk P w K mg base (L2.CX P w) (k + 1) f fd ["self", "source", "target"] (spRecord C CN n) := by
  obtain ⟨f0, d0, G0, b0, k0, g0⟩ := h0.ex
  obtain ⟨f1, d1, G1, b1, k1, g1⟩ := h1.ex
  obtain ⟨f2, d2, G2, b2, m2⟩ := h2.ex
  obtain ⟨f3, d3, G3, b3, m3⟩ := h3.ex
  refine F.okX scNRec (fun vs H Q E h => by obtain ⟨_, _, _, _, _, _, _, _, rfl, _⟩ := h; rfl) (fun cdv A outer s H vs Q E hr h => ?_)
  obtain ⟨x, v, u, d, e, A', U, g, rfl, nd, hd, he, hs, hs2, hc, hc2, q1, q2, q3⟩ := h
  have hu := hu_of hr
  refine ⟨_, pss_cons (ps_expr (pe_call (E := E) G0 hr (by rfl) g0 k0 b0 .nil (passes_call (takes_of rfl rfl rfl rfl) fun _ _ _ _ h => h) (pa_cons (pv 1) pa_nil)))
    (pss_cons (ps_expr (pe_call (E := E) G0 hr (by rfl) g0 k0 b0 .nil (passes_call (takes_of rfl rfl rfl rfl) fun _ _ _ _ h => h) (pa_cons (pv 2) pa_nil)))
    (pss_cons (ps_if (pt_val (pe_meth (E := E0) (pv 0) T.cl m3 G3 hr b3 .nil pass0 (pa_cons (pv 1) (pa_cons (pv 2) pa_nil)))) (pss_one (ps_ret pe_bl)) pss_nil)
    (pss_cons (ps_dput hu (pe_fld (pv 0) rfl) (pe_call (E := E0) G1 hr (by rfl) g1 k1 b1 .nil pass0 (pa_cons (pv 1) pa_nil)) (pe_callB cr_sortedS (by rfl) B.sorted bSorted (pa_cons (pe_op op_cat (pe_meth (E := E0) (pv 0) T.cl m2 G2 hr b2 .nil pass0 (pa_cons (pv 1) pa_nil)) (pe_lst (pa_cons (pe_call (E := E0) G1 hr (by rfl) g1 k1 b1 .nil pass0 (pa_cons (pv 2) pa_nil)) pa_nil))) pa_nil)) rfl)
    (pss_one (ps_ret pe_bl))))), ?_⟩
  refine ⟨v, rfl, v, d, rfl, hd, hs, hc, fun n1 H1 e1 => ?_, q1⟩
  refine ⟨u, rfl, u, e, rfl, Dt.ex e1 he, hs2, hc2, fun n2 H2 e2 => ?_, fun n2 dx H' r => q2 n1 n2 dx H' (r.back e1)⟩
  obtain ⟨s0, t0, rfl, rfl, sU, tU, qf, qt⟩ := q3 n1 n2
  cases hd with
  | str =>
  cases he with
  | str =>
  have e12 := e1.trans e2
  have nd2 := nd.ex e12
  refine q_when (b := isNd g (.str s0) (.str t0)) (et_B (ev_meth (ev_var rfl) nd2.ob rfl (ea_cons (ev_var rfl) (ea_cons (ev_var rfl) ea_nil)) (spv_isNeed nd2 (.str s0) (.str t0) hs hs2))) (fun hb H3 e3 => ?_) (fun hb H3 e3 => ?_)
  · exact s_ret ev_c fun H4 e4 => qf (of_decide_eq_true hb) H4 ((e12.trans e3).trans e4)
  have nt : t0 ∉ tgS g s0 := of_decide_eq_false hb
  have e13 := e12.trans e3
  have nd3 := nd.ex e13
  have lb : ∀ {z : Str}, isNameS z = true → z.length ≤ 1000 := fun {z} h => by
    have := sm_name h
    rw [sm] at this
    exact of_decide_eq_true this
  have tg : EvL (tMeth C "targets" (spTargets C) [] E0 (tVar 0) (tCons (tVar 1) tNil)) [some (.ref x), some (.str s0), some (.str t0)] H3 ((tgS g s0).map V.str) := el_meth (ev_var rfl) nd3.ob rfl (ea_cons (ev_var rfl) ea_nil) (spl_targets nd3 (.str s0) hs)
  have bw : ∀ {H' : Hp} {i : Nat} {z : Str}, isNameS z = true → ([some (V.ref x), some (.str s0), some (.str t0)] : L2.St)[i]? = some (some (.str z)) → Ev (tCall spBareW [] E0 (tCons (tVar i) tNil)) [some (.ref x), some (.str s0), some (.str t0)] H' (.str z) := fun hz hi => ev_call (ea_cons (ev_var hi) ea_nil) fun H1 e1 Q q E => ⟨_, rfl, lb hz, q⟩
  refine tg H3 (Ex.refl H3) _ fun L H4 zL e4 hL => ?_
  refine bw (H' := H4) (i := 2) (z := t0) n2 rfl H4 (Ex.refl H4) _ fun H5 e5 => ⟨by show 1 ≤ sizeLine; decide, fun M zM => ?_⟩
  have hL5 := (Ex.new (o := .lst [.str t0]) zM) _ _ (e5 _ _ hL)
  have few := nd.ok.fewT s0
  refine ⟨L, M, (tgS g s0).map V.str, [.str t0], rfl, rfl, hL5, upd_same, by rw [List.length_map, sizeLine_eq]; show (tgS g s0).length + 1 ≤ _; omega, fun Z zZ => ?_⟩
  refine ⟨Z, tgS g s0 ++ [t0], rfl, by rw [List.map_append]; exact sq_of upd_same, by rw [List.length_append, List.length_singleton]; omega, fun ys p hp hso zp => ?_⟩
  have e6 : Ex H3 (upd (upd (upd H5 M (.lst [.str t0])) Z (.lst ((tgS g s0).map V.str ++ [.str t0]))) p (.lst (ys.map V.str))) := (((e4.trans e5).trans (Ex.new zM)).trans (Ex.new zZ)).trans (Ex.new zp)
  have eys := sorted_is hp hso
  have pp : (upd (upd (upd H5 M (.lst [.str t0])) Z (.lst ((tgS g s0).map V.str ++ [.str t0]))) p (.lst (ys.map V.str))) p = some (.lst (ys.map V.str)) := upd_same
  have zp3 : H3 p = none := fresh_back (((e4.trans e5).trans (Ex.new zM)).trans (Ex.new zZ)) zp
  generalize (upd (upd (upd H5 M (.lst [.str t0])) Z (.lst ((tgS g s0).map V.str ++ [.str t0]))) p (.lst (ys.map V.str))) = H6 at e6 pp
  have nd6 := nd3.ex e6
  refine ⟨.ref x, rfl, x, C, A'.dx, _, .ref A'.dd, rfl, nd6.ob, T.cl, T.nN, rfl, ?_⟩
  refine bw (H' := H6) (i := 1) (z := s0) n1 rfl H6 (Ex.refl H6) _ fun H7 e7 => ?_
  have nd7 := nd6.ex e7
  refine ⟨A'.dd, _, rfl, DPut.k (k := Sum.inr s0) nd7.di ?_, ?_⟩
  · rw [List.length_map, sizeLine_eq]
    have := nd.ok.fewK
    omega
  have ek : putK (g.map kvR) (Sum.inr s0) (.ref p) = (putG g ⟨s0, p, ys⟩).map kvR := putK_row g ⟨s0, p, ys⟩
  rw [ek]
  have zp0 : H p = none := fresh_back e13 zp3
  have pa : ∀ r ∈ g, r.a ≠ p := fun r hr => ne_of_none (nd.ls r hr) zp0
  have px : x ≠ p := ne_of_none nd.ob zp0
  have pd : A'.dd ≠ p := ne_of_none nd.di zp0
  have e37 := (e13.trans e6).trans e7
  dsimp only
  refine s_ret ev_c fun H8 e8 => ?_
  refine qt nt p H8 zp0 (fun b o nb hb => e8 _ _ ?_) ?_
  · have nb' : b ≠ A'.dd := fun z => nb (by rw [z]; exact List.mem_cons_self)
    rw [upd_ne nb']
    exact e37 _ _ hb
  · rw [← eys]
    refine NdAt.ex ?_ e8
    refine ⟨by rw [upd_ne nd.xd]; exact nd7.ob, upd_same, fun r hr => ?_, ?_⟩
    · rcases mem_put hr with rfl | hr
      · rw [upd_ne pd.symm]
        exact e7 _ _ pp
      · rw [upd_ne (nd.da hr).symm]
        exact nd7.ls r hr
    · refine put_ok nd.ok sU (fun z => ?_) ?_ (fun t ht => ?_) pa
      · have l := hp.length_eq
        have z' : ys = [] := z
        rw [z', List.length_append, List.length_singleton] at l
        simp at l
      · show ys.Pairwise ltS
        rw [eys]
        exact srt_new (nd.ok.up' s0) nt
      · have m := hp.mem_iff.mp ht
        rcases List.mem_append.mp m with m | m
        · exact (nd.ok.tgU m).2
        · rw [List.mem_singleton.mp m]; exact tU
end
end Cr
/-! graphs of needs: equal or not -/
namespace Cr
open PySem PySem.Spec PyProof.Rows L2 Evl
def eqG (g g' : List Row) : Bool := (g.length == g'.length) && g.all fun r => (rowOf g' r.s).isSome && decide (r.ts = tgS g' r.s)
theorem eqv_strs : ∀ (xs ys : List Str), PyData.eqvAll (xs.map PyData.str) (ys.map PyData.str) = decide (xs = ys)
  | [], [] => rfl
  | [], _ :: _ => rfl
  | _ :: _, [] => rfl
  | x :: xs, y :: ys => by
    show (PyData.eqv (.str x) (.str y) && PyData.eqvAll (xs.map PyData.str) (ys.map PyData.str)) = _
    rw [eqv_strs xs ys]
    show (x == y && decide (xs = ys)) = decide (x :: xs = y :: ys)
    rw [Bool.eq_iff_iff, Bool.and_eq_true, beq_iff_eq, decide_eq_true_eq, decide_eq_true_eq, List.cons.injEq]
theorem all_mem {α : Type} {f h : α → Bool} {g : List α} (e : ∀ r ∈ g, f r = h r) : g.all f = g.all h := by
  rw [Bool.eq_iff_iff, List.all_eq_true, List.all_eq_true]
  exact ⟨fun z r hr => by rw [← e r hr]; exact z r hr, fun z r hr => by rw [e r hr]; exact z r hr⟩
def rEqG : R2 := fun x y H Q => ∃ (a b : Addr) (g g' : List Row) (U U' : List Str), x = .ref a ∧ y = .ref b ∧ H a = some (.dK (g.map kvR)) ∧ H b = some (.dK (g'.map kvR)) ∧ (∀ r ∈ g, H r.a = some (.lst (r.ts.map V.str))) ∧ (∀ r ∈ g', H r.a = some (.lst (r.ts.map V.str))) ∧ GOk U g ∧ GOk U' g' ∧ Q (.bl (eqG g g')) H
theorem kv_row {k : Key} {v : Value} : ∀ {g : List Row} {va : List (Key × Value)}, KV (g.map kvR) va → (k, v) ∈ va → ∃ r ∈ g, k = Sum.inr r.s ∧ v = .ref r.a
  | [], _, r, h => by cases r; exact nomatch h
  | y :: g, _, r, h => by
    cases r with
    | cons h1 r =>
      rcases List.mem_cons.mp h with e | h
      · obtain ⟨a1, a2⟩ := h1
        subst e
        exact ⟨y, List.mem_cons_self, a1.symm, a2⟩
      · obtain ⟨z, hz, e⟩ := kv_row r h
        exact ⟨z, List.mem_cons_of_mem _ hz, e⟩
theorem kv_all {f : Key → Bool} : ∀ {g : List Row} {va : List (Key × Value)}, KV (g.map kvR) va → va.all (fun p => f p.1) = g.all fun r => f (Sum.inr r.s)
  | [], _, r => by cases r; rfl
  | y :: g, _, r => by
    cases r with
    | cons h1 r =>
      rw [List.all_cons, List.all_cons, kv_all r]
      congr 1
      exact congrArg f h1.1.symm
section
variable {X : Cx}
theorem op_eqG (hu : X.A.units + 64 < cLine) : OpR X (compareOp .Eq) rEqG := by
  intro pins s σ H x y v u Q I rx ry h
  obtain ⟨a, b, g, g', U, U', rfl, rfl, ea, eb, hg, hg', ok, ok', q⟩ := h
  obtain rfl : v = Value.ref a := rx
  obtain rfl : u = Value.ref b := ry
  obtain ⟨_, ya, va, ra, da⟩ := (show ObjOk X.prog X.w H s.heap a (.dK (g.map kvR)) from I.hok a _ ea)
  obtain ⟨_, yb, vb, rb, db⟩ := (show ObjOk X.prog X.w H s.heap b (.dK (g'.map kvR)) from I.hok b _ eb)
  have la := ra.length
  have lb := rb.length
  rw [List.length_map] at la lb
  have vat : ∀ (s' : Str), RelO ((rowOf g' s').map fun r => V.ref r.a) (valueAt vb (Sum.inr s')) := fun s' => by
    have z := rb.val (Sum.inr s')
    rw [val_row] at z
    exact z
  let e : Key → Bool := fun k => match k with | .inr s' => decide (tgS g s' = tgS g' s') | .inl _ => false
  refine PySem.W.keq_eqIn (knd := mixKind X.prog X.w) (r := va.all fun p => (valueAt vb p.1).isSome && e p.1) ya yb da db (by omega) (fun _ => PySem.W.KeqHitsIn.of _ fun k v' y' hm hv => ?_) ?_
  · obtain ⟨r, hr, rfl, rfl⟩ := kv_row ra hm
    have z := vat r.s
    rw [hv] at z
    cases hro : rowOf g' r.s with
    | none => rw [hro] at z; exact False.elim z
    | some r' =>
      rw [hro] at z
      obtain rfl : y' = Value.ref r'.a := z
      obtain ⟨hr1, hr2⟩ := rowOf_mem hro
      have d1 : Dt H (.ref r.a) (.list (r.ts.map PyData.str)) := .lst (hg r hr) (dts_strs r.ts)
      have d2 : Dt H (.ref r'.a) (.list (r'.ts.map PyData.str)) := .lst (hg' r' hr1) (dts_strs r'.ts)
      obtain ⟨as, rd1⟩ := (Dt.shown I d1 (show RelV (.ref r.a) (Value.ref r.a) from rfl)).1
      obtain ⟨bs, rd2⟩ := (Dt.shown I d2 (show RelV (.ref r'.a) (Value.ref r'.a) from rfl)).1
      have l1 := lay_strs fun t ht => ok.un _ (ok.tn r hr t ht)
      have l2 := lay_strs fun t ht => ok'.un _ (ok'.tn r' hr1 t ht)
      have ez : e (Sum.inr r.s) = PyData.eqv (.list (r.ts.map PyData.str)) (.list (r'.ts.map PyData.str)) := by
        show decide (tgS g r.s = tgS g' r.s) = PyData.eqvAll (r.ts.map PyData.str) (r'.ts.map PyData.str)
        rw [eqv_strs]
        have e1 : tgS g r.s = r.ts := by unfold tgS; rw [rowOf_in ok.keys hr]
        have e2 : tgS g' r.s = r'.ts := by unfold tgS; rw [hro]
        rw [e1, e2]
      rw [ez]
      refine SeqAt.EqAt.inModel (SeqAt.eqAt_reads _ _ _ _ _ _ _ _ rd1 rd2 l1.1 l2.1 ?_) _ _
      show X.A.units + 1 + _ < _
      have : min (PyData.list (r.ts.map PyData.str)).depth (PyData.list (r'.ts.map PyData.str)).depth ≤ (PyData.list (r.ts.map PyData.str)).depth := Nat.min_le_left _ _
      have := l1.2
      omega
  · refine fin_bl I q ?_
    rw [kv_all (f := fun k => (valueAt vb k).isSome && e k) ra, ← la, ← lb]
    unfold eqG
    congr 1
    refine all_mem fun r hr => ?_
    have e1 : tgS g r.s = r.ts := by unfold tgS; rw [rowOf_in ok.keys hr]
    show ((rowOf g' r.s).isSome && decide (r.ts = tgS g' r.s)) = ((valueAt vb (Sum.inr r.s)).isSome && decide (tgS g r.s = tgS g' r.s))
    rw [e1]
    congr 1
    have z := vat r.s
    cases hro : rowOf g' r.s with
    | none =>
      rw [hro] at z
      cases hv : valueAt vb (Sum.inr r.s) with
      | none => rfl
      | some y => rw [hv] at z; exact False.elim z
    | some r' =>
      rw [hro] at z
      cases hv : valueAt vb (Sum.inr r.s) with
      | none => rw [hv] at z; exact False.elim z
      | some y => rfl
end
theorem key_row {g : List Row} {s : Str} : s ∈ g.map (·.s) ↔ ∃ r, rowOf g s = some r := by
  constructor
  · intro h
    obtain ⟨r, hr, e⟩ := List.mem_map.mp h
    cases z : rowOf g s with
    | none => exact absurd e (rowOf_none z hr)
    | some r' => exact ⟨r', rfl⟩
  · rintro ⟨r, h⟩
    obtain ⟨h1, h2⟩ := rowOf_mem h
    exact List.mem_map.mpr ⟨r, h1, h2⟩
theorem tg_row {g : List Row} {s t : Str} (h : t ∈ tgS g s) : ∃ r, rowOf g s = some r := by
  cases z : rowOf g s with
  | none => unfold tgS at h; rw [z] at h; exact nomatch h
  | some r => exact ⟨r, rfl⟩
theorem eqG_iff {U U' : List Str} {g g' : List Row} (ok : GOk U g) (ok' : GOk U' g') : eqG g g' = true ↔ ∀ s t, t ∈ tgS g s ↔ t ∈ tgS g' s := by
  unfold eqG
  rw [Bool.and_eq_true, beq_iff_eq, List.all_eq_true]
  constructor
  · rintro ⟨hl, ha⟩ s t
    have row : ∀ {r : Row}, r ∈ g → (∃ r', rowOf g' r.s = some r') ∧ r.ts = tgS g' r.s := fun hr => by
      have z := ha _ hr
      rw [Bool.and_eq_true] at z
      exact ⟨Option.isSome_iff_exists.mp z.1, of_decide_eq_true z.2⟩
    cases hs : rowOf g s with
    | some r =>
      obtain ⟨h1, h2⟩ := rowOf_mem hs
      have e : tgS g s = r.ts := by unfold tgS; rw [hs]
      rw [e, (row h1).2, h2]
    | none =>
      have e : tgS g s = [] := by unfold tgS; rw [hs]
      rw [e]
      refine ⟨fun z => (nomatch z), fun z => ?_⟩
      exfalso
      -- s is a key of g' alone: then g' has more keys
      have sub : (s :: g.map (·.s)).length ≤ (g'.map (·.s)).length := nodup_len (List.nodup_cons.mpr ⟨fun m => ?_, ok.keys⟩) fun x hx => ?_
      · rw [List.length_cons, List.length_map, List.length_map] at sub
        omega
      · obtain ⟨r, hr⟩ := key_row.mp m
        rw [hs] at hr
        cases hr
      · rcases List.mem_cons.mp hx with rfl | hx
        · exact key_row.mpr (tg_row z)
        · obtain ⟨r, hr, rfl⟩ := List.mem_map.mp hx
          exact key_row.mpr (row hr).1
  · intro h
    have eqs : ∀ s, tgS g s = tgS g' s := fun s => rise_eq ltS_irrefl ltS_trans (ok.up' s) (ok'.up' s) fun t => h s t
    have sub : ∀ {g1 g2 : List Row} {V : List Str}, GOk V g1 → (∀ s, tgS g1 s = tgS g2 s) → ∀ x ∈ g1.map (·.s), x ∈ g2.map (·.s) := fun {g1 g2 V} o e x hx => by
      obtain ⟨r, hr, rfl⟩ := List.mem_map.mp hx
      have e1 : tgS g1 r.s = r.ts := by unfold tgS; rw [rowOf_in o.keys hr]
      obtain ⟨t, ht⟩ := List.exists_mem_of_ne_nil _ (o.ne r hr)
      rw [← e1, e r.s] at ht
      exact key_row.mpr (tg_row ht)
    refine ⟨?_, fun r hr => ?_⟩
    · have a := nodup_len ok.keys (sub ok eqs)
      have b := nodup_len ok'.keys (sub ok' fun s => (eqs s).symm)
      rw [List.length_map, List.length_map] at a b
      omega
    · have e1 : tgS g r.s = r.ts := by unfold tgS; rw [rowOf_in ok.keys hr]
      obtain ⟨r', hr'⟩ := key_row.mp (sub ok eqs r.s (List.mem_map_of_mem hr))
      rw [Bool.and_eq_true, hr']
      exact ⟨rfl, decide_eq_true (by rw [← e1]; exact eqs r.s)⟩
/-! ### == of graphs -/
abbrev sNEq : Stmt := inClass (topS 14) 2
theorem scNEq : FnScope ["self", "other"] ["self", "other"] (defScope sNEq) := ⟨rfl, rfl, rfl, by decide +kernel, rfl, by decide +kernel, by decide +kernel⟩
structure KitG (K : PySem.W.Frag) (C : Addr) : Prop where
  n : PySem.W.kitOne K (.type "NoneType") (.ref C) = some false
  i : PySem.W.kitOne K (.type "int") (.ref C) = some false
  s : PySem.W.kitOne K (.type "str") (.ref C) = some false
  l : PySem.W.kitOne K (.type "list") (.ref C) = some false
  t : PySem.W.kitOne K (.type "tuple") (.ref C) = some false
  d : PySem.W.kitOne K (.type "dict") (.ref C) = some false
def spNEq (C : Addr) : Sp := fun vs H Q _ => ∃ (p : Addr) (y : V) (A : NdA) (U : List Str) (g : List Row), vs = [.ref p, y] ∧ NdAt C H p A U g ∧
  ((OthB H y ∧ ∀ H', Ex H H' → Q (.bl false) H') ∨ ∃ (p2 : Addr) (A2 : NdA) (U2 : List Str) (g2 : List Row), y = .ref p2 ∧ NdAt C H p2 A2 U2 g2 ∧ ∀ H', Ex H H' → Q (.bl (eqG g g2)) H')
section
variable {P : Program} {w : World} {K : PySem.W.Frag} {mg : Str → Option Value} {base : Heap}
theorem ok_neq {f C : Addr} {fd : FuncData} {k : Nat} (F : Fun K "__eq__" "Needs.__eq__" sNEq f fd) (B : Blt mg) (T : NdC K mg C) (N : C8.InsC K C) (G : KitG K C) : FnOk P w K mg base CX0 (k + 1) f fd ["self", "other"] (spNEq C) := by
  refine F.ok scNEq (fun vs H Q E h => by obtain ⟨_, _, _, _, _, rfl, _⟩ := h; rfl) (fun cdv A outer s H vs Q E hr h => ?_)
  obtain ⟨p, y, A', U, g, rfl, nd, q⟩ := h
  refine ⟨_, pss_one (ps_ret (pe_and (pe_callB call_isi (by rfl) B.isi bIsi (pa_cons (pv 1) (pa_cons (pe_glob (v := .ref C) (by rfl) T.at_ rfl) pa_nil)))
    (pe_one (pe_cmpR (op_eqG hr.units) (pe_fld (pv 0) rfl) (pe_fld (pv 1) rfl) (nomark _))))), ?_⟩
  rcases q with ⟨oth, q⟩ | ⟨p2, A2, U2, g2, rfl, nd2, q⟩
  · obtain ⟨t, ty, kt⟩ : ∃ t, TyX K H y t ∧ PySem.W.kitOne K t (.ref C) = some false := by
      cases y with
      | non => exact ⟨_, .base .non, G.n⟩
      | int i => exact ⟨_, .base (.int i), G.i⟩
      | str x => exact ⟨_, .base (.str x), G.s⟩
      | ref p =>
        rcases oth with ⟨xs, z⟩ | ⟨xs, z⟩ | ⟨kvs, z⟩
        · exact ⟨_, .base (.lst z), G.l⟩
        · exact ⟨_, .base (.tup z), G.t⟩
        · exact ⟨_, .base (.dK z), G.d⟩
      | _ => exact False.elim oth
    exact ⟨y, rfl, y, .ref C, t, .ref C, false, rfl, .own C, ty, kt, false, rfl, iteF (q H (Ex.refl H))⟩
  · refine ⟨.ref p2, rfl, .ref p2, .ref C, .ref C, .ref C, true, rfl, .own C, .base (.ins nd2.ob N.cl N.ha N.hn N.htk N.hm), N.me, true, rfl, ?_⟩
    rw [if_pos rfl]
    exact s_ret (te := tOp rEqG (tFld K (tVar 0) "needed") (tFld K (tVar 1) "needed")) (D := { nx := fun _ H' => Q .non H', rt := Q }) (v := .bl (eqG g g2)) (ev_op (ev_fld (ev_var rfl) nd.ob T.cl T.nN rfl) (ev_fld (ev_var rfl) nd2.ob T.cl T.nN rfl) fun H2 e2 Q' q' => ⟨_, _, g, g2, U, U2, rfl, rfl, e2 _ _ nd.di, e2 _ _ nd2.di, fun r hr => e2 _ _ (nd.ls r hr), fun r hr => e2 _ _ (nd2.ls r hr), nd.ok, nd2.ok, q' H2 (Ex.refl H2)⟩) q
end
end Cr
/-! what a graph answers: sources -/
/-! list.remove of a text -/
namespace Cr
open PySem PySem.Spec PyProof.Rows L2 Evl
theorem hold_strs {h : Heap} : ∀ {ns : List Str} {us : List Value}, Vals (ns.map V.str) us → PySem.W.HoldAll h us ns
  | [], _, .nil => PySem.W.HoldAll.nil
  | x :: ns, _, .cons r t => by
    obtain ⟨tk, rfl⟩ := r
    exact PySem.W.HoldAll.cons ⟨[], .str x tk⟩ (hold_strs t)
theorem erase_mapS : ∀ (ns : List Str) (j : Nat), (ns.map V.str).eraseIdx j = (ns.eraseIdx j).map V.str
  | [], j => by simp
  | a :: r, 0 => by simp
  | a :: r, j + 1 => by
    have ih := erase_mapS r j
    simp [ih]
def rRemS : V → List V → Hp → VK → Prop := fun x xs H Q => ∃ (l : Addr) (ns : List Str) (t : Str) (j : Nat), x = .ref l ∧ xs = [.str t] ∧ H l = some (.lst (ns.map V.str)) ∧ ns[j]? = some t ∧ (∀ m : Nat, m < j → ns[m]? ≠ some t) ∧ Q .non (upd H l (.lst ((ns.eraseIdx j).map V.str)))
section
variable {X : Cx}
theorem mt_removeS (hu : X.A.units + 64 < cLine) : MtM X "list.remove" rRemS := by
  intro pins s σ H x xs v us Q I rx rxs h
  obtain ⟨l, ns, k, j, rfl, rfl, hH, hj, hno, q⟩ := h
  cases rx
  obtain ⟨u, rfl, ru⟩ := rxs.one
  obtain ⟨tk, rfl⟩ := ru
  obtain ⟨z, its, n, r, hl, e⟩ := I.lstM hH
  rw [List.length_map] at hl z
  refine PySem.W.remove_list_datum (α := Str) (j := j) (xs := ns) (x := k) ⟨_, e, rfl, n, rfl⟩ (hold_strs r) ⟨[], .str k tk⟩ (by show _ + 1 + 0 < _; omega) hj hno (by rw [List.size_toArray]; omega) ?_
  have rr := r.eraseIdx j
  rw [erase_mapS] at rr
  refine ⟨.non, _, I.lset (its' := its.eraseIdx j) (t' := s.toks) hH e ?_ rr ?_, rfl, q⟩
  · show its.toArray.eraseIdxIfInBounds j = (its.eraseIdx j).toArray
    rw [List.eraseIdxIfInBounds_toArray]
  · have z2 := len_erase ns j
    rw [List.length_map]
    omega
end
end Cr
/-! graphs of needs: all of a source deleted -/
namespace Cr
open PySem PySem.Spec PyProof.Rows L2 Evl
abbrev sNDelA : Stmt := inClass (topS 14) 9
theorem scNDelA : FnScope ["self", "source", "count"] ["self", "source"] (defScope sNDelA) := ⟨rfl, rfl, rfl, by decide +kernel, rfl, by decide +kernel, by decide +kernel⟩
section
variable {P : Program} {w : World} {K : PySem.W.Frag} {mg : Str → Option Value} {base : Heap}
theorem ok_delAll {f C : Addr} {fd : FuncData} {k : Nat} (F : Fun K "delete_all" "Needs.delete_all" sNDelA f fd) (B : Blt mg) (T : NdC K mg C) (h2 : HasM P w K mg base CX0 k C "targets" ["self", "name"] (spTargets C)) : FnOk P w K mg base CX0 (k + 1) f fd ["self", "source"] (spDelAll C) := by
  obtain ⟨f2, d2, G2, b2, m2⟩ := h2.ex
  refine F.ok scNDelA (fun vs H Q E h => by obtain ⟨_, _, _, _, _, _, rfl, _⟩ := h; rfl) (fun cdv A outer s H vs Q E hr h => ?_)
  obtain ⟨x, v, d, A', U, g, rfl, nd, hd, hs, q0, q1⟩ := h
  have hu := hu_of hr
  refine ⟨_, pss_cons (ps_set (i := 2) scNDelA.nd rfl (.inl rfl) (pe_callB call_len_seq (by rfl) B.len bLen (pa_cons (pe_meth (E := E0) (pv 0) T.cl m2 G2 hr b2 .nil pass0 (pa_cons (pv 1) pa_nil)) pa_nil)))
    (pss_cons (ps_if (pt_cmpR op_gt (pv 2) pe_int (nomark _)) (pss_one (ps_ddel (pe_fld (pv 0) rfl) (pv 1))) pss_nil)
    (pss_one (ps_ret (pv 2)))), ?_⟩
  have tg : EvL (tMeth C "targets" (spTargets C) [] E0 (tVar 0) (tCons (tVar 1) tNil)) [some (.ref x), some v, none] H ((tgD g d).map V.str) := el_meth (ev_var rfl) nd.ob rfl (ea_cons (ev_var rfl) ea_nil) (spl_targets nd hd hs)
  refine q_asg (ev_lenN tg) fun H1 e1 => ?_
  rw [List.length_map]
  refine q_when (b := decide (((tgD g d).length : Int) > 0)) (et_test (ev_op (ev_var rfl) ev_c rv_I0)) (fun hb H2 e2 => ?_) (fun hb H2 e2 => ?_)
  · have hb' := of_decide_eq_true hb
    cases d with
    | str s0 =>
      cases hd with
      | str =>
      have ne : tgS g s0 ≠ [] := fun z => by
        have hb2 : ((tgS g s0).length : Int) > 0 := hb'
        rw [z] at hb2
        exact absurd hb2 (by decide)
      have nd2 := nd.ex (e1.trans e2)
      refine ⟨.ref x, rfl, x, C, A'.dx, _, .ref A'.dd, rfl, nd2.ob, T.cl, T.nN, rfl, .str s0, rfl, A'.dd, g.map kvR, Sum.inr s0, rfl, nd2.di, rfl, ?_, ?_⟩
      · rw [val_row, Option.isSome_map]
        cases hr : rowOf g s0 with
        | none => exact absurd (by unfold tgS; rw [hr]) ne
        | some r => rfl
      rw [dropK_row]
      refine s_ret (ev_var rfl) fun H3 e3 => q1 s0 rfl ne H3 (fun b o nb hb3 => e3 _ _ ?_) (NdAt.ex ⟨by rw [upd_ne nd.xd]; exact nd2.ob, upd_same, fun r hr => ?_, drop_ok nd.ok s0⟩ e3)
      · have nb' : b ≠ A'.dd := fun z => nb (by rw [z]; exact List.mem_cons_self)
        rw [upd_ne nb']
        exact (e1.trans e2) _ _ hb3
      · have hr' := (List.mem_filter.mp hr).1
        rw [upd_ne (nd.da hr').symm]
        exact nd2.ls r hr'
    | _ => exact absurd hb' (by show ¬ ((0 : Nat) : Int) > 0; decide)
  · have hb' := of_decide_eq_false hb
    have e0 : tgD g d = [] := List.length_eq_zero_iff.mp (by omega)
    refine s_ret (ev_var rfl) fun H3 e3 => ?_
    rw [e0]
    exact q0 e0 H3 ((e1.trans e2).trans e3)
end
end Cr
/-! data that are drawn: expressions by the data that they give, beside a pot -/
namespace Cr
open PySem PySem.Spec PyProof.Rows L2 Evl
def EvP (p : Addr) (te : TE) (σ : L2.St) (H0 : Hp) (S : PyData → Prop) : Prop := ∀ H, Drew p H0 H → ∀ Q : VK, (∀ v d H2, Drew p H H2 → S d → Dt (wo p H2) v d → Q v H2) → te σ H Q
def EvPA (p : Addr) (ta : TA) (σ : L2.St) (H0 : Hp) (S : List PyData → Prop) : Prop := ∀ H, Drew p H0 H → ∀ Q : List V → Hp → Prop, (∀ vs ds H2, Drew p H H2 → S ds → DtAll (wo p H2) vs ds → Q vs H2) → ta σ H Q
theorem Drew.dt {p : Addr} {H H' : Hp} {v : V} {d : PyData} (r : Drew p H H') (h : Dt (wo p H) v d) : Dt (wo p H') v d := Dt.ex r.ex h
theorem Drew.dts {p : Addr} {H H' : Hp} {vs : List V} {ds : List PyData} (r : Drew p H H') (h : DtAll (wo p H) vs ds) : DtAll (wo p H') vs ds := DtAll.ex r.ex h
theorem dt_wo {p : Addr} {H : Hp} {v : V} {d : PyData} (h : Dt (wo p H) v d) : Dt H v d := Dt.ex (wo_ex p H) h
/-- a new object beside the pot -/
theorem Drew.put {p l : Addr} {H H' : Hp} {o : HO} (r : Drew p H H') (z : H' l = none) : Drew p H (upd H' l o) ∧ l ≠ p ∧ wo p (upd H' l o) l = some o := by
  have n := r.neq z
  exact ⟨r.new z, n, by rw [wo_ne n, upd_same]⟩
section
variable {p : Addr} {te ta tb : TE} {tA : TA} {σ : L2.St} {H0 : Hp} {S S' T : PyData → Prop} {SA : List PyData → Prop} {i : Nat} {E : XK}
theorem evp_mono (h : EvP p te σ H0 S) (m : ∀ d, S d → S' d) : EvP p te σ H0 S' := fun H r0 Q q => h H r0 Q fun v d H2 r s => q v d H2 r (m d s)
theorem evp_of {v : V} {d : PyData} (h : ∀ H, Ev te σ H v) (hd : ∀ H, Dt H v d) : EvP p te σ H0 (· = d) := fun H r0 Q q => h H H (Ex.refl H) Q fun H2 e => q v d H2 (Drew.of r0.pot e) rfl (hd _)
theorem evp_non : EvP p (tC .non) σ H0 (· = .none) := evp_of (fun _ => ev_c) fun _ => .non
theorem evp_str {x : Str} : EvP p (tC (.str x)) σ H0 (· = .str x) := evp_of (fun _ => ev_c) fun _ => .str x
theorem evp_int {j : Int} : EvP p (tC (.int j)) σ H0 (· = .int j) := evp_of (fun _ => ev_c) fun _ => .int j
theorem evp_bl {b : Bool} : EvP p (tC (.bl b)) σ H0 (· = .bool b) := evp_of (fun _ => ev_c) fun _ => .bl b
theorem evp_var {v : V} {d : PyData} (h : σ[i]? = some (some v)) (hd : Dt (wo p H0) v d) : EvP p (tVar i) σ H0 (· = d) := fun H r0 Q q => ⟨v, h, q v d H (Drew.refl r0.pot) rfl (r0.dt hd)⟩
theorem evpa_nil : EvPA p tNil σ H0 (· = []) := fun H r0 Q q => q [] [] H (Drew.refl r0.pot) rfl .nil
theorem evpa_cons (h1 : EvP p te σ H0 S) (h2 : EvPA p tA σ H0 SA) : EvPA p (tCons te tA) σ H0 (fun ds => ∃ d es, ds = d :: es ∧ S d ∧ SA es) := fun H r0 Q q =>
  h1 H r0 _ fun v d H2 r2 s hv => h2 H2 (r0.trans r2) _ fun vs es H3 r3 t hvs => q (v :: vs) (d :: es) H3 (r2.trans r3) ⟨d, es, rfl, s, t⟩ (.cons (r3.dt hv) hvs)
theorem evp_lst (h : EvPA p tA σ H0 SA) (hl : ∀ ds, SA ds → ds.length ≤ 1000) : EvP p (tLst tA) σ H0 (fun d => ∃ ds, d = .list ds ∧ SA ds) := fun H r0 Q q =>
  h H r0 _ fun vs ds H2 r s hv => ⟨Nat.le_trans (Nat.le_of_eq (dtAll_len hv)) (Nat.le_trans (hl ds s) (by decide)), fun l zl => by
    obtain ⟨r2, n, w⟩ := r.put (o := .lst vs) zl
    exact q (.ref l) (.list ds) _ r2 ⟨ds, rfl, s⟩ (.lst w (DtAll.ex (Ex.wo (Ex.new zl)) hv))⟩
theorem evp_tup (h : EvPA p tA σ H0 SA) (hl : ∀ ds, SA ds → ds.length ≤ 1000) : EvP p (tTup tA) σ H0 (fun d => ∃ ds, d = .tuple ds ∧ SA ds) := fun H r0 Q q =>
  h H r0 _ fun vs ds H2 r s hv => ⟨Nat.le_trans (Nat.le_of_eq (dtAll_len hv)) (Nat.le_trans (hl ds s) (by decide)), fun l zl => by
    obtain ⟨r2, n, w⟩ := r.put (o := .tup vs) zl
    exact q (.ref l) (.tuple ds) _ r2 ⟨ds, rfl, s⟩ (.tup w (DtAll.ex (Ex.wo (Ex.new zl)) hv))⟩
/-- lists and tuples of written items -/
def EvPL (p : Addr) (ta : TA) (σ : L2.St) (H0 : Hp) (ds : List PyData) : Prop := EvPA p ta σ H0 (· = ds)
theorem evpl_nil : EvPL p tNil σ H0 [] := evpa_nil
theorem evpl_cons {d : PyData} {ds : List PyData} (h1 : EvP p te σ H0 (· = d)) (h2 : EvPL p tA σ H0 ds) : EvPL p (tCons te tA) σ H0 (d :: ds) := fun H r0 Q q =>
  h1 H r0 _ fun v d' H2 r2 s hv => h2 H2 (r0.trans r2) _ fun vs es H3 r3 t hvs => by
    subst s t
    exact q _ _ H3 (r2.trans r3) rfl (.cons (r3.dt hv) hvs)
theorem evp_lstL {ds : List PyData} (h : EvPL p tA σ H0 ds) (hl : ds.length ≤ 1000) : EvP p (tLst tA) σ H0 (· = .list ds) := evp_mono (evp_lst h fun es e => by subst e; exact hl) fun d ⟨es, e1, e2⟩ => by subst e2; exact e1
theorem evp_tupL {ds : List PyData} (h : EvPL p tA σ H0 ds) (hl : ds.length ≤ 1000) : EvP p (tTup tA) σ H0 (· = .tuple ds) := evp_mono (evp_tup h fun es e => by subst e; exact hl) fun d ⟨es, e1, e2⟩ => by subst e2; exact e1
theorem evp_dnew : EvP p tDNewK σ H0 (· = .dict []) := fun H r0 Q q => fun l zl => by
  obtain ⟨r2, n, w⟩ := (Drew.refl r0.pot).put (o := .dK []) zl
  exact q (.ref l) _ _ r2 rfl (.dct w .nil)
/-! ### draws -/
theorem evp_draw {b : Int} (h0 : σ[i]? = some (some (.ref p))) (hb : ∀ H, Ev tb σ H (.int b)) (b0 : 0 < b) (b1 : b.natAbs.log2 < 9000) : EvP p (tCall spDraw [] E (tCons (tVar i) (tCons tb tNil))) σ H0 (fun d => ∃ j : Int, d = .int j ∧ 0 ≤ j ∧ j < b) := fun H r0 Q q =>
  ⟨.ref p, h0, hb H H (Ex.refl H) _ fun H1 e1 => ⟨p, b, rfl, b0, b1, r0.pot.ex e1, fun j H2 j0 j1 r => q (.int j) (.int j) H2 ((Drew.of r0.pot e1).trans r) ⟨j, rfl, j0, j1⟩ (.int j)⟩⟩
theorem evp_choice {SA : List PyData → Prop} (h0 : σ[i]? = some (some (.ref p))) (h : EvP p tb σ H0 (fun d => ∃ ds, d = .list ds ∧ SA ds)) (hl : ∀ ds, SA ds → 0 < ds.length ∧ ds.length ≤ 1000) :
    EvP p (tCall spChoice [] E (tCons (tVar i) (tCons tb tNil))) σ H0 (fun d => ∃ ds, SA ds ∧ d ∈ ds) := fun H r0 Q q =>
  ⟨.ref p, h0, h H r0 _ fun v d H2 r2 ⟨ds, ed, s⟩ hv => by
    subst ed
    obtain ⟨a, xs, rfl, ha, hx⟩ := dt_lst hv
    obtain ⟨n, ha'⟩ := wo_some ha
    have l1 := dtAll_len hx
    have l2 := hl ds s
    refine ⟨p, r2.pot, .inl ⟨a, xs, rfl, n, ha', by omega, by omega, fun v H3 hv r3 => ?_⟩⟩
    obtain ⟨d, hd, hdt⟩ := dtAll_mem' hx hv
    exact q v d H3 (r2.trans r3) ⟨ds, s, hd⟩ (r3.dt hdt)⟩
/-- a def of the law that draws data -/
def spDrawn (S : PyData → Prop) : Sp := fun vs H Q _ => ∃ p : Addr, vs = [.ref p] ∧ Pot H p ∧ ∀ v d H', Drew p H H' → S d → Dt (wo p H') v d → Q v H'
theorem evp_drawn (h0 : σ[i]? = some (some (.ref p))) : EvP p (tCall (spDrawn S) [] E (tCons (tVar i) tNil)) σ H0 S := fun H r0 Q q => ⟨.ref p, h0, p, rfl, r0.pot, q⟩
/-! ### statements -/
theorem q_asgP {D : Ends} {tz : TS} {j : Nat} (h : EvP p te σ H0 S) (pot : Pot H0 p) (k : ∀ v d H1, Drew p H0 H1 → S d → Dt (wo p H1) v d → tz D (σ.set j (some v)) H1) : tSeq (tAsg te (gName j)) tz D σ H0 := h H0 (Drew.refl pot) _ k
/-- any target -/
theorem q_asgPG {D : Ends} {tz : TS} {g : TG} (h : EvP p te σ H0 S) (pot : Pot H0 p) (k : ∀ v d H1, Drew p H0 H1 → S d → Dt (wo p H1) v d → g v σ H1 (tz D)) : tSeq (tAsg te g) tz D σ H0 := h H0 (Drew.refl pot) _ k
theorem s_retP {D : Ends} (h : EvP p te σ H0 S) (pot : Pot H0 p) (k : ∀ v d H1, Drew p H0 H1 → S d → Dt (wo p H1) v d → D.rt v H1) : tRet te D σ H0 := h H0 (Drew.refl pot) _ k
end
/-! ### n == j, n a number in a variable -/
end Cr
/-! graphs of needs: what changes, as a rule for each change -/
namespace Cr
open PySem PySem.Spec PyProof.Rows L2 Evl
theorem But.more {l l' : List Addr} {H H' : Hp} (b : But l H H') (h : ∀ a ∈ l, a ∈ l') : But l' H H' := fun a o n z => b a o (fun m => n (h a m)) z
theorem rec_of {C CN x : Addr} {n : Nat} {s t : Str} {A : NdA} {U : List Str} {g : List Row} {H : Hp} {Q : VK} {E : XK} (nd : NdAt C H x A U g) (n1 : 1 ≤ n) (hs : s ∈ U) (ht : t ∈ U)
    (k : ∀ b g' H', But [A.dd] H H' → NdAt C H' x A U g' → (∀ q : Pr, q.2 ∈ tgS g' q.1 ↔ (q = (s, t) ∨ q.2 ∈ tgS g q.1)) → (∀ r ∈ g', r ∈ g ∨ H r.a = none) → Q (.bl b) H') : spRecord C CN n [.ref x, .str s, .str t] H Q E := by
  have ns0 := nd.ok.un s hs
  have nt0 := nd.ok.un t ht
  have cpn : ∀ {z : Str}, cpyTo n (.str z) := ⟨rfl, by show 0 < n; omega⟩
  refine ⟨x, .str s, .str t, .str s, .str t, A, U, g, rfl, nd, .str s, .str t, sm_name ns0, sm_name nt0, cpn, cpn, fun z => ?_, fun _ z => ?_, fun _ _ => ⟨s, t, rfl, rfl, hs, ht, fun mem H1 e1 => ?_, fun mem l H1 zl b1 nd1 => ?_⟩⟩
  · rw [show isName (.str s) = true from ns0] at z; cases z
  · rw [show isName (.str t) = true from nt0] at z; cases z
  · refine k false g H1 (But.of e1) (nd.ex e1) (fun q' => ⟨.inr, ?_⟩) fun r hr => .inl hr
    rintro (h | h)
    · rw [h]; exact mem
    · exact h
  · refine k true _ H1 b1 nd1 (fun q' => ?_) fun r hr => ?_
    · rw [tgS_put]
      show q'.2 ∈ (if s = q'.1 then srtS (tgS g s ++ [t]) else tgS g q'.1) ↔ _
      by_cases h : s = q'.1
      · rw [if_pos h, (srtS_perm _).mem_iff, List.mem_append, List.mem_singleton, h]
        constructor
        · rintro (z | z)
          · exact .inr z
          · exact .inl (Prod.ext rfl z)
        · rintro (z | z)
          · exact .inr (by rw [z])
          · exact .inl z
      · rw [if_neg h]
        constructor
        · exact .inr
        · rintro (z | z)
          · exact absurd (by rw [z]) h
          · exact z
    · rcases mem_put hr with rfl | hr
      · exact .inr zl
      · exact .inl hr
theorem delAll_of {C x : Addr} {s : Str} {A : NdA} {U : List Str} {g : List Row} {H : Hp} {Q : VK} {E : XK} (nd : NdAt C H x A U g) (hs : isNameS s = true)
    (k : ∀ g' H', But [A.dd] H H' → NdAt C H' x A U g' → (∀ q : Pr, q.2 ∈ tgS g' q.1 ↔ (q.2 ∈ tgS g q.1 ∧ q.1 ≠ s)) → (∀ r ∈ g', r ∈ g) → Q (.int ((tgS g s).length : Int)) H') : spDelAll C [.ref x, .str s] H Q E := by
  refine ⟨x, .str s, .str s, A, U, g, rfl, nd, .str s, sm_name hs, fun z H1 e1 => ?_, fun s' es hne H1 b1 nd1 => ?_⟩
  · have z' : tgS g s = [] := z
    have y := k g H1 (But.of e1) (nd.ex e1) (fun q' => ⟨fun a => ⟨a, fun e => by rw [e, z'] at a; exact nomatch a⟩, fun a => a.1⟩) fun r hr => hr
    rw [z'] at y
    exact y
  · cases es
    refine k _ H1 b1 nd1 (fun q' => ?_) fun r hr => (List.mem_filter.mp hr).1
    rw [tgS_drop]
    by_cases h : q'.1 = s
    · rw [if_pos h]
      exact ⟨fun a => (nomatch a), fun a => absurd h a.2⟩
    · rw [if_neg h]
      exact ⟨fun a => ⟨a, h⟩, fun a => a.1⟩
/-- a graph that a heap does not know -/
structure NewG (C : Addr) (H0 H : Hp) (x : Addr) (A : NdA) (U : List Str) (g : List Row) : Prop where
  nd : NdAt C H x A U g
  zx : H0 x = none
  zd : H0 A.dd = none
  za : ∀ r ∈ g, H0 r.a = none
theorem drew_but {p : Addr} {H0 H H' : Hp} {l : List Addr} (r : Drew p H0 H) (pot : Pot H0 p) (b : But l H H') (hl : ∀ a ∈ l, H0 a = none) : Drew p H0 H' := by
  refine ⟨fun a o z => ?_, ?_⟩
  · obtain ⟨n, z⟩ := wo_some z
    rw [wo_ne n]
    exact b a o (fun m => by rw [hl a m] at z; cases z) (r.at n z)
  · obtain ⟨i, j, hp, h'⟩ := r.pot
    refine ⟨i, j, b p _ (fun m => ?_) hp, h'⟩
    obtain ⟨_, _, hp0, _⟩ := pot
    rw [hl p m] at hp0
    cases hp0
theorem NewG.drew {C : Addr} {H0 H H' : Hp} {p x : Addr} {A : NdA} {U : List Str} {g : List Row} (h : NewG C H0 H x A U g) (r : Drew p H H') (pot : Pot H p) : NewG C H0 H' x A U g := ⟨h.nd.drew r pot, h.zx, h.zd, h.za⟩
theorem NewG.ex {C : Addr} {H0 H H' : Hp} {x : Addr} {A : NdA} {U : List Str} {g : List Row} (h : NewG C H0 H x A U g) (r : Ex H H') : NewG C H0 H' x A U g := ⟨h.nd.ex r, h.zx, h.zd, h.za⟩
/-- Needs(): a new graph without needs -/
theorem new_of {C : Addr} {U : List Str} {H : Hp} {Q : VK} (hU : ∀ n ∈ U, isNameS n = true) (lU : U.length ≤ 62) (k : ∀ x A H', Ex H H' → NewG C H H' x A U [] → Q (.ref x) H') {x dx dd : Addr} {H3 : Hp} (zx : H x = none) (zdx : H dx = none) (nxd : dx ≠ x) (zdd : (upd (upd H dx (.own x)) x (.ins C dx [])) dd = none) (ndx : dd ≠ x) (eH3 : H3 = upd (upd (upd (upd H dx (.own x)) x (.ins C dx [])) dd (.dK [])) x (.ins C dx [("needed", .ref dd)])) : Q (.ref x) H3 := by
  have zdd2 : H dd = none := by
    rw [upd_ne ndx] at zdd
    by_cases e : dd = dx
    · rw [e, upd_same] at zdd; cases zdd
    · rw [upd_ne e] at zdd; exact zdd
  have e23 : Ex H H3 := fun b o hb => by
    rw [eH3, upd_ne (ne_of_none hb zx), upd_ne (ne_of_none hb zdd2), upd_ne (ne_of_none hb zx), upd_ne (ne_of_none hb zdx)]
    exact hb
  have x3 : H3 x = some (.ins C dx [("needed", .ref dd)]) := by rw [eH3, upd_same]
  have d3' : H3 dd = some (.dK ((([] : List Row)).map kvR)) := by rw [eH3, upd_ne ndx, upd_same]; rfl
  exact k x ⟨dx, dd⟩ H3 e23 ⟨⟨x3, d3', by simp, ⟨hU, lU, List.nodup_nil, List.nodup_nil, by simp, by simp, by simp, by simp⟩⟩, zx, zdd2, by simp⟩
end Cr
/-! the law's own order: a list mixed -/
namespace Cr
open PySem PySem.Spec PyProof.Rows L2 Evl
theorem erase_perm {α : Type} : ∀ {l : List α} {k : Nat} {b : α}, l[k]? = some b → (b :: l.eraseIdx k).Perm l
  | a :: r, 0, b, h => by cases h; exact List.Perm.refl _
  | a :: r, k + 1, b, h => (List.Perm.swap a b _).trans (List.Perm.cons a (erase_perm (l := r) h))
theorem map_erase {α β : Type} (f : α → β) : ∀ (l : List α) (k : Nat), (l.map f).eraseIdx k = (l.eraseIdx k).map f
  | [], k => by simp
  | a :: r, 0 => rfl
  | a :: r, k + 1 => by
    show f a :: (r.map f).eraseIdx k = f a :: (r.eraseIdx k).map f
    rw [map_erase f r k]
end Cr
/-! a graph beside its pairs, rules -/
namespace Cr
open PySem PySem.Spec PyProof.Rows L2 Evl
structure MkN (P : Program) (w : World) (K : PySem.W.Frag) (mg : Str → Option Value) (base : Heap) (k : Nat) (C : Addr) : Prop where
  ex : ∃ f fd, Mk K C f ∧ FnOk P w K mg base CX0 k f fd ["self"] (spNInit C) ∧ Binds K fd ["self"] []
/-- a recorded need: new or not -/
theorem rec_ofB {C CN x : Addr} {n : Nat} {s t : Str} {A : NdA} {U : List Str} {g : List Row} {H : Hp} {Q : VK} {E : XK} (nd : NdAt C H x A U g) (n1 : 1 ≤ n) (hs : s ∈ U) (ht : t ∈ U)
    (k : ∀ g' H', But [A.dd] H H' → NdAt C H' x A U g' → (∀ q : Pr, q.2 ∈ tgS g' q.1 ↔ (q = (s, t) ∨ q.2 ∈ tgS g q.1)) → (∀ r ∈ g', r ∈ g ∨ H r.a = none) → Q (.bl (!decide (t ∈ tgS g s))) H') : spRecord C CN n [.ref x, .str s, .str t] H Q E := by
  have ns0 := nd.ok.un s hs
  have nt0 := nd.ok.un t ht
  have cpn : ∀ {z : Str}, cpyTo n (.str z) := ⟨rfl, by show 0 < n; omega⟩
  refine ⟨x, .str s, .str t, .str s, .str t, A, U, g, rfl, nd, .str s, .str t, sm_name ns0, sm_name nt0, cpn, cpn, fun z => ?_, fun _ z => ?_, fun _ _ => ⟨s, t, rfl, rfl, hs, ht, fun mem H1 e1 => ?_, fun mem l H1 zl b1 nd1 => ?_⟩⟩
  · rw [show isName (.str s) = true from ns0] at z; cases z
  · rw [show isName (.str t) = true from nt0] at z; cases z
  · have y := k g H1 (But.of e1) (nd.ex e1) (fun q' => ⟨.inr, fun h => h.elim (fun h => by rw [h]; exact mem) id⟩) fun r hr => .inl hr
    rw [decide_eq_true mem] at y
    exact y
  · have y := k _ H1 b1 nd1 (fun q' => ?_) fun r hr => ?_
    · rw [decide_eq_false mem] at y
      exact y
    · rw [tgS_put]
      show q'.2 ∈ (if s = q'.1 then srtS (tgS g s ++ [t]) else tgS g q'.1) ↔ _
      by_cases h : s = q'.1
      · rw [if_pos h, (srtS_perm _).mem_iff, List.mem_append, List.mem_singleton, h]
        exact ⟨fun z => z.elim .inr fun z => .inl (Prod.ext rfl z), fun z => z.elim (fun z => .inr (by rw [z])) .inl⟩
      · rw [if_neg h]
        exact ⟨.inr, fun z => z.elim (fun z => absurd (by rw [z]) h) id⟩
    · rcases mem_put hr with rfl | hr
      · exact .inr zl
      · exact .inl hr
/-- the pairs stay where only dicts and lists of texts change -/
theorem pairs_keep {p lp : Addr} {H H' : Hp} {ps : List Pr} {l : List Addr} (h : Dt (wo p H) (.ref lp) (.list (ps.map pD))) (b : But l H H') (hl : ∀ a ∈ l, (∃ kvs, H a = some (.dK kvs)) ∨ ∃ ts : List Str, ts ≠ [] ∧ H a = some (.lst (ts.map V.str))) : Dt (wo p H') (.ref lp) (.list (ps.map pD)) := by
  obtain ⟨_, xs, e', hx, hd⟩ := dt_lst h
  cases e'
  obtain ⟨n1, hx1⟩ := wo_some hx
  have tup : ∀ {T : Addr} {ys : List V}, wo p H T = some (.tup ys) → wo p H' T = some (.tup ys) := fun {T ys} hT => by
    obtain ⟨n, hT⟩ := wo_some hT
    rw [wo_ne n]
    refine b T _ (fun m => ?_) hT
    rcases hl T m with ⟨kvs, z⟩ | ⟨ts, _, z⟩
    · rw [hT] at z; cases z
    · rw [hT] at z; cases z
  have all : ∀ {xs : List V} {qs : List Pr}, DtAll (wo p H) xs (qs.map pD) → DtAll (wo p H') xs (qs.map pD) := by
    intro xs qs
    induction qs generalizing xs with
    | nil => intro h; cases h; exact .nil
    | cons q r ih =>
      intro h
      cases h with
      | cons h1 h2 =>
        obtain ⟨T, rfl, hT⟩ := pD_refB h1
        exact .cons (.tup (tup hT) (.cons (.str _) (.cons (.str _) .nil))) (ih h2)
  refine .lst ?_ (all hd)
  rw [wo_ne n1]
  refine b lp _ (fun m => ?_) hx1
  rcases hl lp m with ⟨kvs, z⟩ | ⟨ts, ne, z⟩
  · rw [hx1] at z; cases z
  · rw [hx1] at z
    have ez : xs = ts.map V.str := by
      have := Option.some.inj z
      injection this
    cases ts with
    | nil => exact ne rfl
    | cons t r =>
      rw [ez, List.map_cons] at hd
      cases ps with
      | nil => cases hd
      | cons q r' =>
        rw [List.map_cons] at hd
        cases hd with
        | cons h1 _ => cases h1
theorem tups_keep {p : Addr} {H H' : Hp} (tup : ∀ {T : Addr} {ys : List V}, wo p H T = some (.tup ys) → wo p H' T = some (.tup ys)) : ∀ {xs : List V} {qs : List Pr}, DtAll (wo p H) xs (qs.map pD) → DtAll (wo p H') xs (qs.map pD) := by
  intro xs qs
  induction qs generalizing xs with
  | nil => intro h; cases h; exact .nil
  | cons q r ih =>
    intro h
    cases h with
    | cons h1 h2 =>
      obtain ⟨T, rfl, hT⟩ := pD_refB h1
      exact .cons (.tup (tup hT) (.cons (.str _) (.cons (.str _) .nil))) (ih h2)
theorem row_ne {p lp a : Addr} {H : Hp} {ps : List Pr} {ts : List Str} (h : Dt (wo p H) (.ref lp) (.list (ps.map pD))) (ne : ts ≠ []) (ha : H a = some (.lst (ts.map V.str))) : a ≠ lp := fun e => by
  obtain ⟨_, xs, e', hx, hd⟩ := dt_lst h
  cases e'
  obtain ⟨_, hx1⟩ := wo_some hx
  rw [e, hx1] at ha
  have ez : xs = ts.map V.str := by
    have := Option.some.inj ha
    injection this
  cases ts with
  | nil => exact ne rfl
  | cons t r =>
    rw [ez, List.map_cons] at hd
    cases ps with
    | nil => cases hd
    | cons q r' =>
      rw [List.map_cons] at hd
      cases hd with
      | cons h1 _ => cases h1
/-- the law's graph beside its pairs -/
structure Kp (C : Addr) (HB H : Hp) (p x lp : Addr) (A : NdA) (g : List Row) (ns : List Str) (ps : List Pr) : Prop where
  ng : NewG C HB H x A ns g
  dr : Drew p HB H
  hp : Dt (wo p H) (.ref lp) (.list (ps.map pD))
  dis : ps.Nodup
  hm : ∀ q : Pr, q.2 ∈ tgS g q.1 ↔ q ∈ ps
  zl : HB lp = none
section
variable {C : Addr} {HB H H' : Hp} {p x lp : Addr} {A : NdA} {g g' : List Row} {ns : List Str} {ps : List Pr}
theorem Kp.drew (h : Kp C HB H p x lp A g ns ps) (r : Drew p H H') : Kp C HB H' p x lp A g ns ps := ⟨h.ng.drew r h.dr.pot, h.dr.trans r, r.dt h.hp, h.dis, h.hm, h.zl⟩
theorem Kp.ex (h : Kp C HB H p x lp A g ns ps) (e : Ex H H') : Kp C HB H' p x lp A g ns ps := h.drew (Drew.of h.dr.pot e)
theorem Kp.few (h : Kp C HB H p x lp A g ns ps) (l8 : ns.length ≤ 8) : ps.length ≤ 500 := by
  have e := prs_srt h.ng.nd.ok h.dis h.hm
  have le : (prs g).length = ps.length := by rw [← e]; exact (srtP_perm ps).length_eq
  have s1 : (srcs g).length ≤ 8 := by
    have := nodup_len (ws := srcs g) (us := ns) (rise_nodup (srcs_lt h.ng.nd.ok)) fun y hy => by
      obtain ⟨r, hr, rfl⟩ := (mem_srcs (U := ns)).mp hy
      exact h.ng.nd.ok.nm r hr
    omega
  have fl := flat_len (f := tgS g) (ss := srcs g) fun s _ => h.ng.nd.ok.fewT s
  have e2 : prs g = (srcs g).flatMap fun s => (tgS g s).map fun t => ((s, t) : Pr) := rfl
  rw [← e2, le] at fl
  omega
/-- a change of the graph -/
theorem chg3 {l : List Addr} (ng : NewG C HB H x A ns g) (dr : Drew p HB H) (hp : Dt (wo p H) (.ref lp) (.list (ps.map pD))) (pot : Pot HB p) (b : But l H H') (hl : ∀ a ∈ l, a = A.dd ∨ ∃ r ∈ g, a = r.a) (nd : NdAt C H' x A ns g') (fr : ∀ r ∈ g', (∃ r0 ∈ g, r.a = r0.a) ∨ H r.a = none) : NewG C HB H' x A ns g' ∧ Drew p HB H' ∧ Dt (wo p H') (.ref lp) (.list (ps.map pD)) := by
  refine ⟨⟨nd, ng.zx, ng.zd, fun r hr => ?_⟩, drew_but dr pot b fun a ha => ?_, pairs_keep hp b fun a ha => ?_⟩
  · rcases fr r hr with ⟨r0, h0, e0⟩ | z
    · rw [e0]; exact ng.za r0 h0
    · exact fresh_drew dr pot z
  · rcases hl a ha with rfl | ⟨r, hr, rfl⟩
    · exact ng.zd
    · exact ng.za r hr
  · rcases hl a ha with rfl | ⟨r, hr, rfl⟩
    · exact .inl ⟨_, ng.nd.di⟩
    · exact .inr ⟨r.ts, ng.nd.ok.ne r hr, ng.nd.ls r hr⟩
theorem Kp.chg {l : List Addr} (h : Kp C HB H p x lp A g ns ps) (pot : Pot HB p) (b : But l H H') (hl : ∀ a ∈ l, a = A.dd ∨ ∃ r ∈ g, a = r.a) (nd : NdAt C H' x A ns g') (fr : ∀ r ∈ g', (∃ r0 ∈ g, r.a = r0.a) ∨ H r.a = none) : NewG C HB H' x A ns g' ∧ Drew p HB H' ∧ Dt (wo p H') (.ref lp) (.list (ps.map pD)) := chg3 h.ng h.dr h.hp pot b hl nd fr
end
/-- the list of the pairs changed in place -/
theorem put3 {C : Addr} {HB H : Hp} {p x lp : Addr} {A : NdA} {g : List Row} {ns : List Str} {ps ps0 : List Pr} {xs : List V} (ng : NewG C HB H x A ns g) (dr : Drew p HB H) (hp : Dt (wo p H) (.ref lp) (.list (ps0.map pD))) (zl : HB lp = none) (hd : DtAll (wo p H) xs (ps.map pD)) : NewG C HB (upd H lp (.lst xs)) x A ns g ∧ Drew p HB (upd H lp (.lst xs)) ∧ Dt (wo p (upd H lp (.lst xs))) (.ref lp) (.list (ps.map pD)) := by
  obtain ⟨_, ys, e', hx, hy⟩ := dt_lst hp
  cases e'
  obtain ⟨nl, hx1⟩ := wo_some hx
  have bu : But [lp] H (upd H lp (.lst xs)) := fun a o n z => by rw [upd_ne (fun e => n (List.mem_singleton.mpr e))]; exact z
  refine ⟨⟨ng.nd.but bu (fun m => ?_) (fun m => ?_) fun r hr m => ?_, ng.zx, ng.zd, ng.za⟩, dr.mut zl nl, .lst (by rw [wo_ne nl, upd_same]) (tups_keep (fun {T zs} hT => ?_) hd)⟩
  · have z := ng.nd.ob; rw [List.mem_singleton.mp m, hx1] at z; cases z
  · have z := ng.nd.di; rw [List.mem_singleton.mp m, hx1] at z; cases z
  · exact row_ne hp (ng.nd.ok.ne r hr) (ng.nd.ls r hr) (List.mem_singleton.mp m)
  · obtain ⟨n, hT⟩ := wo_some hT
    rw [wo_ne n, upd_ne (fun e => by rw [e, hx1] at hT; cases hT)]
    exact hT
theorem Kp.put {C : Addr} {HB H : Hp} {p x lp : Addr} {A : NdA} {g : List Row} {ns : List Str} {ps ps0 : List Pr} {xs : List V} (ng : NewG C HB H x A ns g) (dr : Drew p HB H) (pot : Pot HB p) (hp : Dt (wo p H) (.ref lp) (.list (ps0.map pD))) (zl : HB lp = none) (hd : DtAll (wo p H) xs (ps.map pD)) (dis : ps.Nodup) (hm : ∀ q : Pr, q.2 ∈ tgS g q.1 ↔ q ∈ ps) : Kp C HB (upd H lp (.lst xs)) p x lp A g ns ps := by
  obtain ⟨a, b, c⟩ := put3 ng dr hp zl hd
  exact ⟨a, b, c, dis, hm, zl⟩
theorem dts_erase {H : Hp} : ∀ {xs : List V} {ds : List PyData} (k : Nat), DtAll H xs ds → DtAll H (xs.eraseIdx k) (ds.eraseIdx k)
  | _, _, _, .nil => by simpa using DtAll.nil
  | _, _, 0, .cons _ b => b
  | _, _, k + 1, .cons a b => .cons a (dts_erase k b)
def fstIsB (nm : Str) : PyData → Bool
  | .tuple [.str a, _] => decide (a = nm)
  | _ => false
theorem fst_filterB (ps : List Pr) (nm : Str) (neg : Bool) : (ps.map pD).filter (fun d => if neg then !fstIsB nm d else fstIsB nm d) = (ps.filter fun q => if neg then decide (q.1 ≠ nm) else decide (q.1 = nm)).map pD := by
  rw [List.filter_map]
  congr 1
  refine List.filter_congr fun q _ => ?_
  show (if neg then !decide (q.1 = nm) else decide (q.1 = nm)) = _
  cases neg with
  | true => exact (decide_not (p := q.1 = nm)).symm
  | false => rfl
theorem evdf_fstB {K : PySem.W.Frag} {tl tb : TE} {r : R2} {σ : L2.St} {H : Hp} {j : Nat} {lp : Addr} {ps : List Pr} {nm : Str} (neg : Bool) (hr : ∀ (s t : Str) (H : Hp), RV r (.str s) (.str t) H (.bl (if neg then !decide (V.str s = .str t) else decide (V.str s = .str t)))) (hl : Ev tl σ H (.ref lp)) (hp : Dt H (.ref lp) (.list (ps.map pD))) (hz : ps.length ≤ 1000) (hj : ∀ x, wipe ((wipe σ [j]).set j (some x)) [j] = wipe σ [j]) (hjl : j < σ.length) (hwl : (wipe σ [j]).length = σ.length) (ha : ∀ x H1, Ex H H1 → Ev tb ((wipe σ [j]).set j (some x)) H1 (.str nm)) :
    EvDF (tLc (iList K tl) (gName j) (tTest (tOp r (tOp (rIxT K) (tVar j) (tC (.int 0))) tb)) (tVar j) [j]) σ H (.list ((ps.filter fun q => if neg then decide (q.1 ≠ nm) else decide (q.1 = nm)).map pD)) := by
  obtain ⟨_, xs, e', hx, hd⟩ := dt_lst hp
  cases e'
  have lx := dtAll_len hd
  rw [List.length_map] at lx
  rw [← fst_filterB]
  refine evdf_filter (fun d => if neg then !fstIsB nm d else fstIsB nm d) hl hx hd (by omega) hj hjl hwl fun x d H1 e1 hxd hmem => ?_
  obtain ⟨q0, hq0, rfl⟩ := List.mem_map.mp hmem
  obtain ⟨T, rfl, hT⟩ := pD_refB hxd
  have h1 : ((wipe σ [j]).set j (some (V.ref T)))[j]? = some (some (.ref T)) := List.getElem?_set_self (by rw [hwl]; exact hjl)
  refine et_is (et_test (ev_op (ev_op (ev_var h1) ev_c (rv_ixT (st_of hT) (atI_nat (j := 0) rfl))) (ha _ H1 e1) (hr _ _ _))) ?_
  have ed : decide (V.str q0.1 = V.str nm) = decide (q0.1 = nm) := decide_eq_decide.mpr ⟨fun z => V.str.inj z, fun z => by rw [z]⟩
  rw [ed]
  rfl
theorem evd_lenB {K : PySem.W.Frag} {te : TE} {σ : L2.St} {H : Hp} {ds : List PyData} (h : EvD te σ H (.list ds)) : Ev (tCB (fun xs H Q => ∃ p ys, xs = [.ref p] ∧ (SqL K H p ys ∨ SqT K H p ys) ∧ Q (.int ys.length) H) (tCons te tNil)) σ H (.int (ds.length : Int)) := fun H1 e Q q =>
  h H1 e _ fun v H2 e2 hv => by
    obtain ⟨a, xs, rfl, hx, hd⟩ := dt_lst hv
    refine ⟨a, xs, rfl, .inl (sq_of hx), ?_⟩
    rw [dtAll_len hd]
    exact q H2 e2
end Cr
/-! k21: a graph stands as the law's pairs tell -/
namespace Cr
open PySem PySem.Spec PyProof.Rows L2 Evl
/-! ### pairs by their first, by their second name -/
theorem fm_fst (f : Str → List Str) (nm : Str) : ∀ l : List Str, l.Nodup → ((l.flatMap fun s => (f s).map fun t => ((s, t) : Pr)).filter fun q => decide (q.1 = nm)).map (·.2) = if nm ∈ l then f nm else []
  | [], _ => rfl
  | s :: l, nd => by
    rw [List.nodup_cons] at nd
    rw [List.flatMap_cons, List.filter_append, List.map_append, fm_fst f nm l nd.2]
    by_cases h : s = nm
    · subst h
      rw [if_neg nd.1, if_pos List.mem_cons_self, List.append_nil, List.filter_eq_self.mpr, List.map_map]
      · exact List.map_id _
      · intro q hq
        obtain ⟨t, _, rfl⟩ := List.mem_map.mp hq
        exact decide_eq_true rfl
    · have e : ((f s).map fun t => ((s, t) : Pr)).filter (fun q => decide (q.1 = nm)) = [] := List.filter_eq_nil_iff.mpr fun q hq => by
        obtain ⟨t, _, rfl⟩ := List.mem_map.mp hq
        exact fun z => h (of_decide_eq_true z)
      rw [e, List.map_nil, List.nil_append]
      by_cases m : nm ∈ l
      · rw [if_pos m, if_pos (List.mem_cons_of_mem _ m)]
      · rw [if_neg m, if_neg fun z => (List.mem_cons.mp z).elim (fun e => h e.symm) m]
theorem one_of (s nm : Str) : ∀ l : List Str, l.Nodup → ((l.map fun t => ((s, t) : Pr)).filter fun q => decide (q.2 = nm)).map (·.1) = if nm ∈ l then [s] else []
  | [], _ => rfl
  | t :: l, nd => by
    rw [List.nodup_cons] at nd
    rw [List.map_cons, List.filter_cons]
    by_cases h : t = nm
    · subst h
      rw [if_pos (decide_eq_true rfl), if_pos List.mem_cons_self, List.map_cons, one_of s t l nd.2, if_neg nd.1]
    · rw [if_neg (fun z => h (of_decide_eq_true z)), one_of s nm l nd.2]
      by_cases m : nm ∈ l
      · rw [if_pos m, if_pos (List.mem_cons_of_mem _ m)]
      · rw [if_neg m, if_neg fun z => (List.mem_cons.mp z).elim (fun e => h e.symm) m]
theorem fm_snd (f : Str → List Str) (hf : ∀ s, (f s).Nodup) (nm : Str) : ∀ l : List Str, ((l.flatMap fun s => (f s).map fun t => ((s, t) : Pr)).filter fun q => decide (q.2 = nm)).map (·.1) = l.filter fun s => decide (nm ∈ f s)
  | [] => rfl
  | s :: l => by
    rw [List.flatMap_cons, List.filter_append, List.map_append, fm_snd f hf nm l, one_of s nm _ (hf s), List.filter_cons]
    by_cases h : nm ∈ f s
    · rw [if_pos h, if_pos (decide_eq_true h)]; rfl
    · rw [if_neg h, if_neg fun z => h (of_decide_eq_true z)]; rfl
theorem prs_fst {U : List Str} {g : List Row} (ok : GOk U g) (nm : Str) : ((prs g).filter fun q => decide (q.1 = nm)).map (·.2) = tgS g nm := by
  have e2 : prs g = (srcs g).flatMap fun s => (tgS g s).map fun t => ((s, t) : Pr) := rfl
  rw [e2, fm_fst _ _ _ (rise_nodup (srcs_lt ok))]
  by_cases m : nm ∈ srcs g
  · rw [if_pos m]
  · rw [if_neg m]
    refine (List.eq_nil_iff_forall_not_mem.mpr fun t ht => m ?_).symm
    obtain ⟨r, hr⟩ := tg_row ht
    obtain ⟨a, b⟩ := rowOf_mem hr
    exact (mem_srcs (U := U)).mpr ⟨r, a, b⟩
theorem prs_snd {U : List Str} {g : List Row} (ok : GOk U g) (nm : Str) : ((prs g).filter fun q => decide (q.2 = nm)).map (·.1) = srcD g (.str nm) := by
  have e2 : prs g = (srcs g).flatMap fun s => (tgS g s).map fun t => ((s, t) : Pr) := rfl
  rw [e2, fm_snd _ (fun s => rise_nodup (ok.up' s))]
  rfl
theorem str_atN {ns : List Str} {i : Nat} {v : V} (h : (ns.map V.str)[i]? = some v) : ∃ a, ns[i]? = some a ∧ a ∈ ns ∧ v = .str a := by
  rw [List.getElem?_map] at h
  cases hh : ns[i]? with
  | none => rw [hh] at h; cases h
  | some z => rw [hh] at h; exact ⟨z, rfl, List.mem_of_getElem? hh, (Option.some.inj h).symm⟩
theorem ev_eqD {ta tb : TE} {σ : L2.St} {H : Hp} {d e : PyData} (h1 : EvD ta σ H d) (h2 : EvD tb σ H e) (s1 : SeqAt.shaped d = true) (s2 : SeqAt.shaped e = true) : Ev (tOp rEqDt ta tb) σ H (.bl (PyData.eqv d e)) := fun H1 e1 Q q => h1 H1 e1 _ fun v H2 e2 hv => h2 H2 (e1.trans e2) _ fun u H3 e3 hu => ⟨d, e, Dt.ex e3 hv, hu, s1, s2, q H3 (e2.trans e3)⟩
abbrev sSta : Stmt := topS 23
abbrev nSta : List Str := ["_law_made", "_law_rows", "_law_names", "_law_kept", "_law_source", "_law_target", "_law_name", "_law_told", "_law_due", "_law_one"]
theorem scSta : FnScope nSta ["_law_made", "_law_rows", "_law_names"] (defScope sSta) := ⟨rfl, rfl, rfl, by decide +kernel, rfl, by decide +kernel, by decide +kernel⟩
def spSta (C : Addr) : Sp := fun vs H Q _ => ∃ (x lr ln : Addr) (A : NdA) (U : List Str) (g : List Row) (ns : List Str) (ps : List Pr), vs = [.ref x, .ref lr, .ref ln] ∧ NdAt C H x A U g ∧ Dt H (.ref lr) (.list (ps.map pD)) ∧ H ln = some (.lst (ns.map V.str)) ∧ ps.Nodup ∧ (∀ q : Pr, q.2 ∈ tgS g q.1 ↔ q ∈ ps) ∧ ps.length ≤ 1000 ∧ (∀ n ∈ ns, isNameS n = true) ∧ ∀ H', Ex H H' → Q (.bl true) H'
section
variable {P : Program} {w : World} {K : PySem.W.Frag} {mg : Str → Option Value} {base : Heap}
theorem ok_sta {f C : Addr} {fd : FuncData} {k : Nat} (F : Fun K "_law_stands" "_law_stands" sSta f fd) (B : Blt mg) (N : NdC K mg C) (h7 : HasM P w K mg base CX0 (k + 2) C "pairs" ["self"] (spPairs C)) (h8 : HasLenN P w K mg base (k + 1) C (spNLen C)) (hR : HasTxt P w K mg base (k + 1) C "__repr__" (spNRepr C)) (hS : HasTxt P w K mg base k C "__str__" (spNStr C))
    (h5 : HasM P w K mg base CX0 (k + 2) C "targets" ["self", "name"] (spTargets C)) (h6 : HasM P w K mg base CX0 (k + 2) C "sources" ["self", "name"] (spSources C)) :
    FnG P w K mg base CX0 (k + 3) f fd ["_law_made", "_law_rows", "_law_names"] (spSta C) := by
  obtain ⟨f5, d5, G5, b5, m5⟩ := h5.ex
  obtain ⟨f6, d6, G6, b6, m6⟩ := h6.ex
  obtain ⟨f7, d7, G7, b7, m7⟩ := h7.ex
  obtain ⟨f8, d8, G8, b8, i8, t8⟩ := h8.ex
  obtain ⟨fR, dR, GR, bR, iR, tR⟩ := hR.ex
  obtain ⟨fS, dS, GS, bS, iS, tS⟩ := hS.ex
  refine okG F scSta (fun vs H Q E h => by obtain ⟨_, _, _, _, _, _, _, _, rfl, _⟩ := h; rfl) (fun cdv A outer s H vs Q E hq hr h => ?_)
  obtain ⟨x, lr, ln, A', U, g, ns, ps, rfl, nd, hps, hln, dis, hm, few, hns, q⟩ := h
  refine ⟨_, pss_cons (ps_set (i := 3) scSta.nd rfl (.inl rfl) (pe_callB (call_sortDt hr.units) (by rfl) B.sorted bSorted (pa_cons (pv 1) pa_nil)))
    (pss_cons (ps_if (PW.pt (pw_or (pt_cmpR (op_neDt hr.units) (pe_meth0 (E := E0) (pv 0) N.cl m7 G7 hr b7 .nil pass0) (pv 3) (nomark _)) (pw_or (pt_cmpR op_ne (pe_callB (call_lenO i8 t8 G8 b8 hr) (by rfl) B.len bLen (pa_cons (pv 0) pa_nil)) (pe_callB call_len_seq (by rfl) B.len bLen (pa_cons (pv 3) pa_nil)) (nomark _)) (pw_or1 (pt_cmpR op_ne (pe_callB (call_reprO iR tR GR bR hq hr) (by rfl) B.repr bRepr (pa_cons (pv 0) pa_nil)) (pe_op op_add_str (pe_op op_add_str pe_str (pe_callB (call_reprG hq hr.units) (by rfl) B.repr bRepr (pa_cons (pv 3) pa_nil))) pe_str) (nomark _)))))) (pss_one (ps_ret pe_bl)) pss_nil)
    (pss_cons (ps_if (pt_cmpR op_ne (pe_callTy (call_strO iS tS GS bS hq hr) (by rfl) B.str bStr (pa_cons (pv 0) pa_nil)) (pe_join pe_str (pe_lc (own := [("_law_source", 4), ("_law_target", 5)]) (g := gTup K 2 (gCons (gName 4) (gCons (gName 5) gNil))) (tt := tYes) (te := tOp rCatS (tOp rCatS (tVar 4) (tC (.str ":"))) (tVar 5)) rfl scSta.nd (pi_list (pv 3)) (blkOk_by (own := [("_law_source", 4), ("_law_target", 5)]) (N := nSta) (sc := defScope sSta) (by decide +kernel))
        (fun _ _ _ _ _ => by exact pg_tup rfl (pgs_cons (pg_name (i := 4) scSta.nd rfl (Or.inl rfl)) (pgs_cons (pg_name (i := 5) scSta.nd rfl (Or.inl rfl)) pgs_nil))) (fun _ _ _ _ _ => pts_nil) (fun _ _ _ _ _ => by exact pe_op op_add_str (pe_op op_add_str (pv 4) pe_str) (pv 5)))) (nomark _)) (pss_one (ps_ret pe_bl)) pss_nil)
    (pss_cons (ps_expr (pe_bm PySem.F.plainAttrs_list PySem.F.slot_list_append PySem.F.type_list_append mt_append (pe_meth0 (E := E0) (pv 0) N.cl m7 G7 hr b7 .nil pass0) (pa_cons pe_non pa_nil)))
    (pss_cons (ps_for PassesOwn.never rfl (pi_list (pv 2)) (pg_name (i := 6) scSta.nd rfl (.inr rfl))
      (pss_cons (ps_set (i := 7) scSta.nd rfl (.inl rfl) (pe_lst (pa_cons (pe_meth (E := E0) (pv 0) N.cl m5 G5 hr b5 .nil pass0 (pa_cons (pv 6) pa_nil)) (pa_cons (pe_meth (E := E0) (pv 0) N.cl m6 G6 hr b6 .nil pass0 (pa_cons (pv 6) pa_nil)) pa_nil))))
      (pss_cons (ps_set (i := 8) scSta.nd rfl (.inl rfl) (pe_lst (pa_cons (pe_lc (own := [("_law_one", 9)]) (g := gName 9) (tt := tTest (tOp rEq (tOp (rIxT K) (tVar 9) (tC (.int 0))) (tVar 6))) (te := tOp (rIxT K) (tVar 9) (tC (.int 1))) rfl scSta.nd (pi_list (pv 3)) (blkOk_by (own := [("_law_one", 9)]) (N := nSta) (sc := defScope sSta) (by decide +kernel))
          (fun _ _ _ _ _ => pg_name (i := 9) scSta.nd rfl (Or.inl rfl)) (fun _ _ _ _ _ => by exact pts_one (pt_cmpR op_eq (pe_ix ix_tup (pv 9) pe_int (fun _ _ => rfl)) (pv 6) (nomark _))) (fun _ _ _ _ _ => by exact pe_ix ix_tup (pv 9) pe_int (fun _ _ => rfl)))
          (pa_cons (pe_lc (own := [("_law_one", 9)]) (g := gName 9) (tt := tTest (tOp rEq (tOp (rIxT K) (tVar 9) (tC (.int 1))) (tVar 6))) (te := tOp (rIxT K) (tVar 9) (tC (.int 0))) rfl scSta.nd (pi_list (pv 3)) (blkOk_by (own := [("_law_one", 9)]) (N := nSta) (sc := defScope sSta) (by decide +kernel))
          (fun _ _ _ _ _ => pg_name (i := 9) scSta.nd rfl (Or.inl rfl)) (fun _ _ _ _ _ => by exact pts_one (pt_cmpR op_eq (pe_ix ix_tup (pv 9) pe_int (fun _ _ => rfl)) (pv 6) (nomark _))) (fun _ _ _ _ _ => by exact pe_ix ix_tup (pv 9) pe_int (fun _ _ => rfl))) pa_nil))))
      (pss_cons (ps_if (pt_cmpR (op_neDt hr.units) (pv 7) (pv 8) (nomark _)) (pss_one (ps_ret pe_bl)) pss_nil)
      (pss_cons (ps_expr (pe_bm PySem.F.plainAttrs_list PySem.F.slot_list_append PySem.F.type_list_append mt_append (pe_meth (E := E0) (pv 0) N.cl m5 G5 hr b5 .nil pass0 (pa_cons (pv 6) pa_nil)) (pa_cons pe_str pa_nil)))
      (pss_one (ps_expr (pe_bm0 PySem.F.plainAttrs_list PySem.F.slot_list_clear PySem.F.type_list_clear mt_clear (pe_meth (E := E0) (pv 0) N.cl m6 G6 hr b6 .nil pass0 (pa_cons (pv 6) pa_nil))))))))))
    (pss_one (ps_ret (pe_cmpR (op_eqDt hr.units) (pe_meth0 (E := E0) (pv 0) N.cl m7 G7 hr b7 .nil pass0) (pv 3) (nomark _)))))))), ?_⟩
  have so : srtP ps = prs g := prs_srt nd.ok dis hm
  have ll : (prs g).length = ps.length := by rw [← so]; exact (srtP_perm ps).length_eq
  have nm : ∀ q ∈ prs g, isNameS q.1 = true ∧ isNameS q.2 = true := fun q hq => nd.ok.name ((mem_prs nd.ok).mp hq)
  have srt := evd_sortP (te := tVar 1) (σ := [some (.ref x), some (.ref lr), some (.ref ln), none, none, none, none, none, none, none]) (evd_var rfl hps)
  rw [so] at srt
  refine q_asgD srt fun v H1 e1 hv => ?_
  obtain ⟨lk, xs, rfl, hk, hd⟩ := dt_lst hv
  have lxs := dtAll_len hd
  rw [List.length_map] at lxs
  have nd1 := nd.ex e1
  show tSeq _ _ _ [some (.ref x), some (.ref lr), some (.ref ln), some (.ref lk), none, none, none, none, none, none] H1
  have sh := prs_shaped nm
  have rf : PyData.eqv (.list ((prs g).map pD)) (.list ((prs g).map pD)) = true := SeqAt.eqv_refl _ (by rw [PyData.canLay0, prs_lay nm])
  have ft := prs_fits nm (prs_len nd.ok)
  have sm0 := prs_small nm (prs_len nd.ok)
  have l1 : (("Needs(" : Str)).length = 6 := by decide +kernel
  have l2' : ((")" : Str)).length = 1 := by decide +kernel
  have rp : Ev (tOp rCatS (tOp rCatS (tC (.str "Needs(")) (tCB rRepr (tCons (tVar 3) tNil))) (tC (.str ")"))) [some (.ref x), some (.ref lr), some (.ref ln), some (.ref lk), none, none, none, none, none, none] H1 (.str (reprG g)) := by
    rw [reprG_is]
    exact ev_op (ev_op ev_c (ev_reprD (evd_var rfl hv) ft) (rv_catS (by rw [l1]; omega))) ev_c (rv_catS (by rw [Str.length_append, l1, l2']; omega))
  have len : Ev (tCB (rLenQ K) (tCons (tVar 3) tNil)) [some (.ref x), some (.ref lr), some (.ref ln), some (.ref lk), none, none, none, none, none, none] H1 (.int ((prs g).length : Int)) := fun H2 e2 Q' q' => ⟨.ref lk, rfl, lk, xs, rfl, .inl (sq_of (e2 _ _ hk)), by rw [lxs]; exact q' H2 (Ex.refl H2)⟩
  refine q_when (b := false) (et_is (et_or (b := false) (et_is (et_neD (evd_pairs rfl nd1) (evd_var rfl hv) sh sh) (congrArg not rf)) fun _ => et_is (et_or (b := false) (et_is (et_test (ev_op (ev_lenO rfl nd1 (by omega)) len (rv_ne rfl))) (by rw [decide_eq_true rfl])) fun _ => et_is (et_test (ev_op (ev_reprO rfl nd1) rp (rv_ne rfl))) (by rw [decide_eq_true rfl]; rfl)) rfl) rfl) (fun z => nomatch z) (fun _ H2 e2 => ?_)
  have nd2 := nd1.ex e2
  have hv2 := Dt.ex e2 hv
  have txs := el_txts (K := K) (tl := tVar 3) (i := 4) (j := 5) (v := .non) (qs := prs g) (σ := [some (.ref x), some (.ref lr), some (.ref ln), some (.ref lk), none, none, none, none, none, none]) (H := H2) (evd_var rfl hv2) nm (by omega) (by decide) (fun _ _ => rfl) (fun _ _ => rfl) (fun _ _ => rfl)
  have jn := ev_join (K := K) (a := " ") txs (by
    have su := sum_le (ws := (prs g).map txtP) (b := 17) fun w hw => by
      obtain ⟨p, hp, rfl⟩ := List.mem_map.mp hw
      exact txt_len (nm p hp).1 (nm p hp).2
    have l1 : ((" " : Str)).length = 1 := by decide +kernel
    rw [l1]
    rw [List.length_map] at su ⊢
    omega)
  refine q_when (b := false) (et_is (et_test (ev_op (ev_strO rfl nd2) jn (rv_ne rfl))) (by rw [show Txt.join " " ((prs g).map txtP) = strG g from rfl, decide_eq_true rfl]; rfl)) (fun z => nomatch z) (fun _ H3 e3 => ?_)
  have nd3 := nd2.ex e3
  refine q_dropAny ⟨.ref x, rfl, x, A'.dx, _, rfl, nd3.ob, rfl, x, A', U, g, rfl, nd3, fun l ys H4 zl e4 hl hd4 => ⟨Or.inl ⟨rfl, ys, sq_of hl⟩, l, ys, .non, rfl, rfl, hl, ?_, ?_⟩⟩
  · have z := dtAll_len hd4
    rw [List.length_map] at z
    exact sz_lt (by omega)
  have e14 : Ex H1 (upd H4 l (.lst (ys ++ [.non]))) := Ex.mut ((e2.trans e3).trans e4) (fresh_back (e2.trans e3) zl)
  generalize upd H4 l (.lst (ys ++ [.non])) = H5 at e14
  have e05 := e1.trans e14
  have fin : ∀ {σ' : L2.St} {H' : Hp}, σ'[0]? = some (some (.ref x)) → σ'[3]? = some (some (.ref lk)) → Ex H1 H' → Ev (tOp rEqDt (tMeth C "pairs" (spPairs C) [] E0 (tVar 0) tNil) (tVar 3)) σ' H' (.bl true) := fun {σ' H'} h0 h3 e => ev_is (ev_eqD (evd_pairs h0 (nd1.ex e)) (evd_var h3 (Dt.ex e hv)) sh sh) (congrArg V.bl rf)
  refine q_forLn (a := ln) (xs := ns.map V.str) (ev_var rfl) (sq_of (e05 _ _ hln)) (fun _ σ' H' => (∃ y6 y7 y8, σ' = [some (.ref x), some (.ref lr), some (.ref ln), some (.ref lk), none, none, y6, y7, y8, none]) ∧ Ex H1 H') (fun H6 e6 => ⟨⟨none, none, none, rfl⟩, e14.trans e6⟩) (fun i σ' H' _ h => sq_of (h.2 _ _ (e1 _ _ hln))) ?_ ?_
  rotate_left
  · rintro σ' H6 ⟨⟨y6, y7, y8, rfl⟩, e6⟩
    exact s_ret (fin rfl rfl e6) fun H7 e7 => q H7 ((e1.trans e6).trans e7)
  rintro i v σ' H6 hi ⟨⟨y6, y7, y8, rfl⟩, e6⟩
  obtain ⟨a, _, ha, rfl⟩ := str_atN hi
  have ao := hns a ha
  have nd6 := nd1.ex e6
  show tSeq _ _ _ [some (.ref x), some (.ref lr), some (.ref ln), some (.ref lk), none, none, some (.str a), y7, y8, none] H6
  have m1 : ∀ {σ : L2.St} {H' : Hp}, σ[0]? = some (some (.ref x)) → σ[6]? = some (some (.str a)) → Ex H1 H' → EvL (tMeth C "targets" (spTargets C) [] E0 (tVar 0) (tCons (tVar 6) tNil)) σ H' ((tgS g a).map V.str) := fun {σ H'} h0 h6 e H5 e5 Q' q' =>
    ⟨.ref x, h0, x, A'.dx, _, rfl, (nd1.ex (e.trans e5)).ob, rfl, .str a, h6, x, .str a, .str a, A', U, g, rfl, nd1.ex (e.trans e5), .str a, sm_name ao, q'⟩
  have m2 : ∀ {σ : L2.St} {H' : Hp}, σ[0]? = some (some (.ref x)) → σ[6]? = some (some (.str a)) → Ex H1 H' → EvL (tMeth C "sources" (spSources C) [] E0 (tVar 0) (tCons (tVar 6) tNil)) σ H' ((srcD g (.str a)).map V.str) := fun {σ H'} h0 h6 e H5 e5 Q' q' =>
    ⟨.ref x, h0, x, A'.dx, _, rfl, (nd1.ex (e.trans e5)).ob, rfl, .str a, h6, x, .str a, .str a, A', U, g, rfl, nd1.ex (e.trans e5), .str a, sm_name ao, q'⟩
  refine q_asgD (evd_lst (evda_cons (evd_strs (m1 rfl rfl e6)) (evda_cons (evd_strs (m2 rfl rfl e6)) evda_nil)) (by show 2 ≤ 1000; decide)) fun v7 H7 e7 hv7 => ?_
  have e67 := e6.trans e7
  show tSeq _ _ _ [some (.ref x), some (.ref lr), some (.ref ln), some (.ref lk), none, none, some (.str a), some v7, y8, none] H7
  have p1 := el_part (K := K) (tl := tVar 3) (σ := [some (.ref x), some (.ref lr), some (.ref ln), some (.ref lk), none, none, some (.str a), some v7, y8, none]) (H := H7) (j := 9) (a := 6) (lp := lk) (ps := prs g) (nm := a) false true (ev_var rfl) (Dt.ex e67 hv) (by omega) (fun _ => rfl) (by show 9 < 10; decide) rfl (by decide) rfl
  have p2 := el_part (K := K) (tl := tVar 3) (σ := [some (.ref x), some (.ref lr), some (.ref ln), some (.ref lk), none, none, some (.str a), some v7, y8, none]) (H := H7) (j := 9) (a := 6) (lp := lk) (ps := prs g) (nm := a) true false (ev_var rfl) (Dt.ex e67 hv) (by omega) (fun _ => rfl) (by show 9 < 10; decide) rfl (by decide) rfl
  rw [show ((prs g).filter fun q => decide ((if false then q.2 else q.1) = a)).map (fun q => if true then q.2 else q.1) = tgS g a from prs_fst nd.ok a] at p1
  rw [show ((prs g).filter fun q => decide ((if true then q.2 else q.1) = a)).map (fun q => if false then q.2 else q.1) = srcD g (.str a) from prs_snd nd.ok a] at p2
  refine q_asgD (evd_lst (evda_cons (evd_strs p1) (evda_cons (evd_strs p2) evda_nil)) (by show 2 ≤ 1000; decide)) fun v8 H8 e8 hv8 => ?_
  have e68 := e67.trans e8
  show tSeq _ _ _ [some (.ref x), some (.ref lr), some (.ref ln), some (.ref lk), none, none, some (.str a), some v7, some v8, none] H8
  have tn : ∀ t ∈ tgS g a, isNameS t = true := fun t ht => (nd.ok.name ht).2
  have sn : ∀ t ∈ srcD g (.str a), isNameS t = true := fun t ht => srcs_name nd.ok (List.mem_filter.mp ht).1
  obtain ⟨sh2, la2⟩ := two_strs tn sn
  refine q_when (b := false) (et_is (et_neD (evd_var rfl (Dt.ex e8 hv7)) (evd_var rfl hv8) sh2 sh2) (by rw [SeqAt.eqv_refl _ la2]; rfl)) (fun z => nomatch z) (fun _ H9 e9 => ?_)
  have e69 := e68.trans e9
  refine q_appNL (m1 rfl rfl e69) (fun _ => ev_c) (by rw [List.length_map]; have := nd.ok.fewT a; omega) fun H10 e10 => ?_
  have e610 := e69.trans e10
  refine m2 (σ := [some (.ref x), some (.ref lr), some (.ref ln), some (.ref lk), none, none, some (.str a), some v7, some v8, none]) rfl rfl e610 H10 (Ex.refl H10) _ fun l2 H11 z2 e11 hl2 => ⟨Or.inl ⟨rfl, _, sq_of hl2⟩, l2, _, rfl, rfl, hl2, ?_⟩
  exact ⟨⟨_, _, _, rfl⟩, Ex.mut (e610.trans e11) (fresh_back e610 z2)⟩
end
end Cr
/-! odd values: data that is no name, that can be copied and shown -/
namespace Cr
open PySem PySem.Spec PyProof.Rows L2 Evl
structure OkO (d : PyData) : Prop where
  sz : Sz 2000 3 d
  cp : cpyTo 3 d
  sm : sm d = true
structure OddD (d : PyData) : Prop where
  no : isName d = false
  ok : OkO d
theorem nameO {x : Str} (h : isNameS x = true) : OkO (.str x) := by
  refine ⟨?_, ⟨rfl, by show 0 < 3; decide⟩, sm_name h⟩
  unfold isNameS at h
  simp only [Bool.and_eq_true, decide_eq_true_eq] at h
  refine sz_str (by omega) fun c hc => ?_
  have y := List.all_eq_true.mp h.2 c hc
  unfold isLow at y
  simp only [Bool.and_eq_true, decide_eq_true_eq] at y
  omega
theorem odds_ok {ds : List PyData} (k : ∀ d ∈ ds, (d.showable && (d.leavesShort 80 && (decide (d.bulk ≤ 2000) && (decide (d.depth ≤ 3) && (cpy d && (decide (dpt d < 3) && (sm d && !isName d))))))) = true) : ∀ d ∈ ds, OddD d := by
  intro d hd
  have z := k d hd
  simp only [Bool.and_eq_true, decide_eq_true_eq, Bool.not_eq_true'] at z
  obtain ⟨a, b, c, e, f, g, i, j⟩ := z
  exact ⟨j, ⟨a, b, c, e⟩, ⟨f, g⟩, i⟩
end Cr
/-! k21: odd values -/
namespace Cr
open PySem PySem.Spec PyProof.Rows L2 Evl
abbrev sOdd : Stmt := topS 22
theorem scOdd : FnScope ["_law_pot_here"] ["_law_pot_here"] (defScope sOdd) := ⟨rfl, rfl, rfl, by decide +kernel, rfl, by decide +kernel, by decide +kernel⟩
abbrev oddK : List PyData := [.none, .int 0, .bool true, .bool false, .str "", .str "A", .str "ninechars", .tuple [], .list [], .dict [], .int 7, .tuple [.str "a"], .list [.str "a"], .str "a b", .int (-1)]
theorem oddK_ok : ∀ d ∈ oddK, OddD d := odds_ok (by decide +kernel)
section
variable {P : Program} {w : World} {K : PySem.W.Frag} {mg : Str → Option Value} {base : Heap}
theorem ok_odd {f : Addr} {fd : FuncData} {k : Nat} (F : Fun K "_law_odd" "_law_odd" sOdd f fd) (h2 : Has P w K mg base k "_law_choice" ["_law_pot_here", "_law_options"] spChoice) : FnG P w K mg base CX0 (k + 1) f fd ["_law_pot_here"] (spDrawn OddD) := by
  obtain ⟨f2, d2, G2, b2, k2, g2⟩ := h2.ex
  refine okG F scOdd (fun vs H Q E h => by obtain ⟨_, rfl, _⟩ := h; rfl) (fun cdv A outer s H vs Q E hq hr h => ?_)
  obtain ⟨p, rfl, pot, q⟩ := h
  refine ⟨_, pss_one (ps_ret (callG (E := E0) G2 hq hr (by rfl) g2 k2 b2 .nil pass0 (pa_cons (pv 0) (pa_cons (pe_lst (pa_cons pe_non (pa_cons pe_int (pa_cons pe_bl (pa_cons pe_bl (pa_cons pe_str (pa_cons pe_str (pa_cons pe_str (pa_cons (pe_tup pa_nil) (pa_cons (pe_lst pa_nil) (pa_cons pe_dnewK (pa_cons pe_int (pa_cons (pe_tup (pa_cons pe_str pa_nil)) (pa_cons (pe_lst (pa_cons pe_str pa_nil)) (pa_cons pe_str (pa_cons (pe_un un_neg pe_int) pa_nil)))))))))))))))) pa_nil)))), ?_⟩
  refine s_retP (p := p) (S := OddD) (evp_mono (evp_choice (SA := fun ds => ds = oddK) rfl (evp_mono (evp_lstL (ds := oddK) (evpl_cons evp_non (evpl_cons evp_int (evpl_cons evp_bl (evpl_cons evp_bl (evpl_cons evp_str (evpl_cons evp_str (evpl_cons evp_str (evpl_cons (evp_tupL evpl_nil (by decide)) (evpl_cons (evp_lstL evpl_nil (by decide)) (evpl_cons evp_dnew (evpl_cons evp_int (evpl_cons (evp_tupL (evpl_cons evp_str evpl_nil) (by show 1 ≤ 1000; decide)) (evpl_cons (evp_lstL (evpl_cons evp_str evpl_nil) (by show 1 ≤ 1000; decide)) (evpl_cons evp_str (evpl_cons (evp_of (fun _ => ev_un ev_c ru_neg) fun _ => .int _) evpl_nil))))))))))))))) (by show 15 ≤ 1000; decide)) fun d e => ⟨_, e, rfl⟩) ?c) ?d) pot ?e
  case c => rintro ds rfl; show 0 < 15 ∧ 15 ≤ 1000; decide
  case d => rintro d ⟨ds, rfl, hd⟩; exact oddK_ok d hd
  case e => exact fun v d H2 r2 ok hd => q v d H2 r2 ok hd
end
end Cr
/-! a classmethod with a star parameter: C.m(), C.m(a, b) -/
namespace Cr
open PySem PySem.Spec PyProof.Rows L2
/-- an error told behind a new tuple is told from ahead of it -/
theorem cxNew (P : Program) (w : World) : CXNew (L2.CX P w) := by
  rintro outer s H h2 p rest E e s' kp hp hn ⟨a, B, H', cls, d, eq, fly, hok, ub, na, os, ab, hE⟩
  have ne : ∀ {b : Addr} {o : Obj}, s.heap.get? b = some o → b ≠ p := fun {b o} e z => by
    rw [z] at e
    exact Nat.lt_irrefl _ (Nat.lt_of_lt_of_le (Heap.lt_size e) hp)
  have neH : ∀ {b : Addr} {u : HO}, H b = some u → b ≠ p := fun {b u} e z => by rw [z, hn] at e; cases e
  exact ⟨a, B, H', cls, d, eq, fly, hok, ⟨fun b o e n hb => ub.keep b o (kp b o e) (by rw [upd_ne (ne e)]; exact n) hb, fun b o e hb => ub.slot b o (kp b o e) hb, fun b o e n => ub.free b o (kp b o e) (by rw [upd_ne (ne e)]; exact n), fun b o e hb => ub.there b o (kp b o e) hb,
    fun b xs e => ub.tups b xs (by rw [upd_ne (neH e)]; exact e), fun b o xs e => ub.frzs b o xs (by rw [upd_ne (neH e)]; exact e), fun b ps e => ub.tbls b ps (by rw [upd_ne (neH e)]; exact e)⟩, na, os, ab, hE⟩
section
variable {X : Cx} {CX : CXT} {k : Nat} {C p g : Addr} {mc : Value} {sp : Sp} {E : XK} {o : Expr} {m : Str} {pos apos : Pos} {ta : TE} {pl : Sem Bool}
/-- C.m() -/
theorem pe_cmeth0 (he : PE X o ta) (r : ClX.CRead X.K C mc) (c : ClX.CMet X.K C mc m p g) (F : FnR X.prog X.w X.K X.mg X.base CX k g sp) (hr : Room k X.A) (hx : Passes CX X E)
    (ht : eval (.Call (.Attribute o m apos) [] [] pos) X.env = (do
      let ov ← eval o X.env
      standAt apos.atName
      let (f, first) ← holding [ov] (getMethod ov m pl)
      callWith pos f first (backTo pos (starEach [] X.env)) (backToKw pos (keywordEach [] X.env))) := by rfl) :
    PE X (.Call (.Attribute o m apos) [] [] pos) (ClX.tCMeth C sp E ta tNil) := by
  refine ⟨fun pins s σ H Q I h => ?_⟩
  refine PySem.W.methodCall_KW (pl := pl) (thn (he.run pins s σ H _ I h) fun u s1 ⟨x, H1, I1, rx, ex, q⟩ => ?_) ht
  subst ex
  obtain rfl : u = Value.ref C := rx
  refine ClX.getmethcm_ok I1 r c fun s2 I2 => ?_
  exact PySem.W.callWith_M0 (first := []) ⟨ClX.pin_at I2, I2.kIn⟩ c.fi (ClX.run_cm (us := []) (vs := []) F hr hx I2 .nil q)
end
section
variable {X : Cx} {CX : CXT} {k i : Nat} {f C : Addr} {fd : FuncData} {ps : List Str} {sp : Sp} {E : XK} {a : Str} {p pos : Pos} {dvs : List V} {ds : List Value}
/-- cls(), the class in a variable -/
theorem pe_makeVar0 (M : Mk X.K C f) (F : FnOk X.prog X.w X.K X.mg X.base CX k f fd ps sp) (hr : Room (k + 1) X.A) (hN : X.N[i]? = some a) (hv : Vis X.env.scope a) (hb : Binds X.K fd ps ds) (hdv : Vals dvs ds) (hx : Passes CX X E)
    (hd : (a == ("__debug__" : Str)) = false := by decide) (hcd : (a == ("__classdict__" : Str)) = false := by decide) : PE X (.Call (.Name a p) [] [] pos) (fun σ H Q => σ[i]? = some (some (.ref C)) ∧ tMake C sp dvs E tNil σ H Q) := by
  refine ⟨fun pins s σ H Q I h => ?_⟩
  obtain ⟨hs, hq⟩ := h
  refine wpAny_Call_Name_kw (thn ((pe_var (pos := p) (i := i) hN hv hd hcd).run pins s σ H (fun v H1 => v = .ref C ∧ H1 = H) I ⟨.ref C, hs, rfl, rfl⟩) fun u s1 ⟨v, H1, I1, r1, q1⟩ => ?_)
  obtain ⟨ev, eH⟩ := q1
  subst ev
  rw [eH] at I1
  obtain rfl : u = Value.ref C := r1
  exact PySem.W.callWith_K0 I1.kIn M.kp (run_make (us := []) M F hr hb hdv hx I1 .nil hq)
end
end Cr
/-! Needs.of(*pairs) -/
namespace Cr
open PySem PySem.Spec PyProof.Rows L2 Evl
abbrev sNOf : Stmt := inClass (topS 14) 1
abbrev nNOf : List Str := ["cls", "pairs", "graph", "source", "target"]
theorem scNOf : FnScope nNOf ["cls", "pairs"] (defScope sNOf) := ⟨rfl, rfl, rfl, by decide +kernel, rfl, by decide +kernel, by decide +kernel⟩
/-- the pairs ahead are good; behind them nothing, or a pair that is refused -/
def spOf (C CN : Addr) (n : Nat) : Sp := fun vs H Q E => ∃ (p : Addr) (xs : List V) (good : List Pr) (U : List Str), vs = [.ref C, .ref p] ∧ H p = some (.tup xs) ∧ (∀ a ∈ U, isNameS a = true) ∧ U.length ≤ 62 ∧ (∀ q ∈ good, q.1 ∈ U ∧ q.2 ∈ U) ∧
  (∀ (j : Nat) (q : Pr), good[j]? = some q → ∃ T : Addr, xs[j]? = some (V.ref T) ∧ H T = some (.tup [.str q.1, .str q.2])) ∧
  ((xs.length = good.length ∧ ∀ x A g H', Ex H H' → NewG C H H' x A U g → (∀ q : Pr, q.2 ∈ tgS g q.1 ↔ q ∈ good) → Q (.ref x) H') ∨
   ∃ (T : Addr) (v u : V) (d e : PyData), xs[good.length]? = some (V.ref T) ∧ H T = some (.tup [v, u]) ∧ Dt H v d ∧ Dt H u e ∧ sm d = true ∧ sm e = true ∧ cpyTo n d ∧ cpyTo n e ∧ (isName d = true → isName e = false) ∧
    (isName d = false → ∀ dx H', Rsd1 H H' dx "value" d → E (.ref CN) (some dx) H') ∧ (isName d = true → ∀ dx H', Rsd1 H H' dx "value" e → E (.ref CN) (some dx) H'))
section
variable {P : Program} {w : World} {K : PySem.W.Frag} {mg : Str → Option Value} {base : Heap}
theorem ok_of {f C CN : Addr} {fd : FuncData} {k n : Nat} (F : Fun K "of" "Needs.of" sNOf f fd) (N : NdC K mg C) (hk : 1 ≤ k) (hn1 : 1 ≤ n) (h5 : MkN P w K mg base (k - 1) C) (h6 : HasM P w K mg base (L2.CX P w) k C "record" ["self", "source", "target"] (spRecord C CN n)) :
    FnR P w K mg base (L2.CX P w) (k + 1) f (fun vs H Q E => ∃ v rest, vs = v :: rest ∧ rest.length ≤ 5 ∧ ∀ p, H p = none → spOf C CN n [v, .ref p] (upd H p (.tup rest)) Q E) := by
  obtain ⟨f5, d5, M5, G5, b5⟩ := h5.ex
  obtain ⟨f6, d6, G6, b6, m6⟩ := h6.ex
  obtain ⟨oc, od, kV, doc, pm, an, cdv, ct, osl, rfl, lk, hcd⟩ := F.ex
  refine fn_ofV (pa := "cls") (pv := "pairs") (nmax := 5) (N := nNOf) lk hcd scNOf (by decide) (bindV_of (fun _ => rfl) (fun _ _ => rfl) (fun _ _ _ => rfl) (fun _ _ _ _ => rfl) (fun _ _ _ _ _ => rfl) (fun _ _ _ _ _ _ => rfl)) (cxNew P w) fun A outer s H vs Q E hr h => ?_
  obtain ⟨p, xs, good, U, rfl, hp, nmU, lU, inU, hg, fin⟩ := h
  have hr1 := hr.mono (j := k - 1 + 1) (by omega)
  refine ⟨_, pss_cons (ps_set (i := 2) scNOf.nd rfl (.inl rfl) (pe_makeVar0 (E := E0) (i := 0) M5 G5 hr1 rfl (.inl rfl) b5 .nil pass0))
    (pss_cons (ps_for (passes_of rfl) rfl (pi_tup (pv 1)) (pg_tup rfl (pgs_cons (pg_name (i := 3) scNOf.nd rfl (.inl rfl)) (pgs_cons (pg_name (i := 4) scNOf.nd rfl (.inl rfl)) pgs_nil)))
      (pss_one (ps_expr (pe_meth (E := E) (pv 2) N.cl m6 G6 hr b6 .nil (passes_call (takes_of rfl rfl rfl rfl) fun _ _ _ _ h => h) (pa_cons (pv 3) (pa_cons (pv 4) pa_nil))))))
    (pss_one (ps_ret (pv 2)))), ?_⟩
  refine ⟨rfl, fun x dx zx zdx nxd => ⟨x, dx, rfl, upd_same, fun dd H3 zdd ndx eH3 => ⟨rfl, ?_⟩⟩⟩
  obtain ⟨A', e3, ng3⟩ : ∃ A', Ex H H3 ∧ NewG C H H3 x A' U [] := by
    have := new_of (C := C) (U := U) (H := H) (Q := fun v H' => v = .ref x → ∃ A', Ex H H' ∧ NewG C H H' x A' U []) nmU lU (fun y A' H' e' n' ey => by cases ey; exact ⟨A', e', n'⟩) zx zdx nxd zdd ndx eH3
    exact this rfl
  clear eH3
  dsimp only
  show tSeq _ _ _ [some (.ref C), some (.ref p), some (.ref x), none, none] H3
  refine q_forT (a := p) (xs := xs) (ev_var rfl) (st_of (e3 _ _ hp)) (fun j σ' H' => j ≤ good.length ∧ ∃ (y3 y4 : Option V) (g : List Row), σ' = [some (.ref C), some (.ref p), some (.ref x), y3, y4] ∧ Ex H H' ∧ NewG C H H' x A' U g ∧ (∀ q : Pr, q.2 ∈ tgS g q.1 ↔ q ∈ good.take j)) (fun H4 e4 => ⟨Nat.zero_le _, none, none, [], rfl, e3.trans e4, ng3.ex e4, fun q => by simp [tgS, rowOf]⟩) (fun j σ' H' _ h => ?_) (fun j v σ' H4 hj h => ?_) (fun σ' H4 h => ?_)
  · obtain ⟨_, _, _, _, _, e, _⟩ := h
    exact st_of (e _ _ hp)
  rotate_left
  · obtain ⟨jl, y3, y4, g, rfl, e4, ng, hm⟩ := h
    rcases fin with ⟨l, k0⟩ | ⟨T, v, u, d, e, hT, _⟩
    · refine ⟨.ref x, rfl, k0 x A' g H4 e4 ng fun q => (hm q).trans ?_⟩
      rw [l, List.take_length]
    · have := (List.getElem?_eq_some_iff.mp hT).1
      omega
  obtain ⟨jl, y3, y4, g, rfl, e4, ng, hm⟩ := h
  have jx := (List.getElem?_eq_some_iff.mp hj).1
  by_cases lt : j < good.length
  · obtain ⟨T, hx, hT⟩ := hg j good[j] (List.getElem?_eq_getElem lt)
    rw [hj] at hx
    cases hx
    have i0 := inU good[j] (List.getElem_mem lt)
    refine ⟨T, [.str good[j].1, .str good[j].2], rfl, st_of (e4 _ _ hT), rfl, .str good[j].1, [.str good[j].2], rfl, .str good[j].2, [], rfl, rfl, ?_⟩
    show tDrop _ _ [some (.ref C), some (.ref p), some (.ref x), some (.str good[j].1), some (.str good[j].2)] H4
    refine ⟨.ref x, rfl, x, A'.dx, _, rfl, ng.nd.ob, rfl, .str good[j].1, rfl, .str good[j].2, rfl, ?_⟩
    dsimp only [tNil]
    refine rec_of ng.nd hn1 i0.1 i0.2 fun b7 g7 H7 bu7 nd7 hm7 hr7 => ?_
    have e7 : Ex H H7 := fun a o z => bu7 a o (fun m => by rw [List.mem_singleton.mp m, ng.zd] at z; cases z) (e4 a o z)
    refine ⟨lt, _, _, g7, rfl, e7, ⟨nd7, ng.zx, ng.zd, fun r hr => ?_⟩, fun q' => (hm7 q').trans ?_⟩
    · rcases hr7 r hr with h | h
      · exact ng.za r h
      · exact fresh_back e4 h
    · rw [hm q', List.take_add_one, List.getElem?_eq_getElem lt, List.mem_append]
      show _ ↔ _ ∨ q' ∈ [good[j]]
      rw [List.mem_singleton]
      exact or_comm
  · have ej : j = good.length := by omega
    subst ej
    rcases fin with ⟨l, _⟩ | ⟨T, v', u, d, e, hx, hT, hd, he, s1, s2, c1, c2, bad, k1, k2⟩
    · omega
    rw [hj] at hx
    cases hx
    refine ⟨T, [v', u], rfl, st_of (e4 _ _ hT), rfl, v', [u], rfl, u, [], rfl, rfl, ?_⟩
    show tDrop _ _ [some (.ref C), some (.ref p), some (.ref x), some v', some u] H4
    refine ⟨.ref x, rfl, x, A'.dx, _, rfl, ng.nd.ob, rfl, v', rfl, u, rfl, ?_⟩
    dsimp only [tNil]
    exact ⟨x, v', u, d, e, A', U, g, rfl, ng.nd, Dt.ex e4 hd, Dt.ex e4 he, s1, s2, c1, c2, fun n1 dx H' r => k1 n1 dx H' (r.back e4), fun n1 n2 dx H' r => k2 n1 dx H' (r.back e4), fun n1 n2 => by rw [bad n1] at n2; cases n2⟩
end
end Cr
/-! several clauses 'except X as n' -/
namespace Cr
open PySem PySem.Spec PyProof.Rows L2 Evl
abbrev ClA := Value × Nat × (Addr → Value → Option Addr → TS)
/-- a suite's ends, the clause's name taken back -/
abbrev goneE (i : Nat) (D : Ends) : Ends := { nx := fun σ' H' => D.nx (σ'.set i none) H', rt := D.rt, bk := fun σ' H' => D.bk (σ'.set i none) H', ct := fun σ' H' => D.ct (σ'.set i none) H' }
/-- what the clauses wish of an exception of the body, from the first on -/
def wAll (K : PySem.W.Frag) (Wout : WX) (D : Ends) : List ClA → WX
  | [] => Wout
  | (c, i, ts) :: r => fun cls d σ H => ∃ b, PySem.W.exmOne K cls c = some b ∧ (b = true → ∀ a, H a = none → ts a cls d (goneE i D) (σ.set i (some (.ref a))) H) ∧ (b = false → wAll K Wout D r cls d σ H)
inductive ClsOk (X : Cx) : List ExceptHandler → List ClA → Prop
  | nil : ClsOk X [] []
  | cons {x n : Str} {c : Value} {i : Nat} {ts : Addr → Value → Option Addr → TS} {b₀ : Stmt} {suite : List Stmt} {np pos' : Pos} {hds : List ExceptHandler} {l : List ClA} (hi : X.N[i]? = some n) (hln : X.env.kindOf n = some .local) (hc : Names X x c)
      (hsu : ∀ (a : Addr) (oe : Obj) (cls : Value) (d : Option Addr) (pn : List (Addr × Obj)), Zc cls d oe → (∃ vs, oe.data = .fields vs) → PSs (X.suite a ((a, oe) :: pn)) (b₀ :: suite) (ts a cls d)) (r : ClsOk X hds l) :
      ClsOk X (.ExceptHandler (some (.Name x np)) (some n) (b₀ :: suite) pos' :: hds) ((c, i, ts) :: l)
section
variable {X : Cx} {body : List Stmt} {h₀ : ExceptHandler} {hds : List ExceptHandler} {l : List ClA} {pos : Pos} {tb : WX → TS} {Wout : WX}
theorem ps_try_all (hs : X.stack = X.env :: X.outer) (hf : X.env.frame = some X.env.locals) (hN : X.N.Nodup) (tk : Takes X Wout)
    (hb : ∀ (W : WX) (pn : List (Addr × Obj)) (xe : Value → Shared → Prop), Takes (X.tr pn xe) W → PassesOwn (model X.prog X.w) X.A X.env xe → PSs (X.tr pn xe) body (tb W))
    (hh : ClsOk X (h₀ :: hds) l) : PS X (.Try body (h₀ :: hds) [] [] pos) (fun D σ H => tb (wAll X.K Wout D l) D σ H) := by
  refine ⟨fun pins s σ H D I h => ?_⟩
  have ok := I.ok
  have hfr : X.A.frames = some (X.env :: X.outer) := by rw [ok.frames, hs]
  refine wpAny_Try_except ?_
  refine wpAny_mono ((hb (wAll X.K Wout D l) (X.pn ++ pins) (fun e s₁ => wpAny (model X.prog X.w) X.A (noteFrame e X.env) (fun _ s₂ => wpAny (model X.prog X.w) X.A (setFlight e none) (fun _ s₃ =>
    wpAny (model X.prog X.w) X.A (handleBy e X.env (h₀ :: hds)) (SP X pins D) X.xe s₃) X.xe s₂) X.xe s₁) (fun u s' xx => ?_) PassesOwn.looking).run [] s σ H D (I.toTry _) h) (fun f s1 hsp => ?_) (fun e s1 he => he)
  · obtain ⟨a, B, sI, pins', σ', H', cls, d, rfl, J', nb, up, sky, na, os, ag, wish⟩ := xx
    have J : Inv X pins σ' H' sI := J'.ofTry ok
    have sky' : Sky B (X.env :: X.outer) a (Zc cls d) X.env.locals s'.heap := by rw [← hs]; exact sky
    show wpAny (model X.prog X.w) X.A (noteFrame (.ref a) X.env) _ _ _
    refine Sky.land Zc.steady hfr hf sky' fun h0 fl0 up0 => ?_
    have J0 : Inv X pins σ' H' { s' with heap := h0 } := J.landed nb fl0.1 (up.trans up0) os ag
    obtain ⟨oe0, vs0, he0, hz0, hd0⟩ := fl0.there
    have nfr : a ∉ frs (X.env :: X.outer) := fun hm => by
      obtain ⟨_, o', e', hnf⟩ := fl0.2.2.1.mem hm
      rw [he0] at e'; cases e'
      exact hnf _ hd0
    have nL : a ≠ X.env.locals := fun z => nfr (List.mem_filterMap.mpr ⟨X.env, List.mem_cons_self, by rw [hf, z]⟩)
    have nF : a ∉ X.fs := fun hm => by
      obtain ⟨e, he, q⟩ := List.mem_filterMap.mp hm
      exact nfr (List.mem_filterMap.mpr ⟨e, List.mem_cons_of_mem _ he, q⟩)
    have S3 := J0.suite he0 hd0 na nL nF
    have LT : PySem.W.Looks (model X.prog X.w) h0 (typeOf (.ref a)) cls := fun A Q E s k q => wpAny_typeOf_ref (k _ _ he0) (by rw [hz0.1]; exact q)
    suffices go : ∀ {hs' : List ExceptHandler} {l' : List ClA}, ClsOk X hs' l' → wAll X.K Wout D l' cls d σ' H' → wpAny (model X.prog X.w) X.A (handleBy (.ref a) X.env hs') (SP X pins D) X.xe { s' with heap := h0 } from go hh wish
    intro hs' l' ck
    induction ck with
    | nil =>
      intro wish
      refine wpAny_handleBy_nil ?_
      obtain ⟨k1, k2, k3, oe, vs, T, oT, ts', he, hz, hd, h1, hr⟩ := id fl0
      unfold PySem.passOn
      refine wpAny_bind (wpAny_field he hd h1 ?_)
      rw [if_neg (show ¬ ((Value.ref T == Value.none) = true) from by simp)]
      have out : wpAny (model X.prog X.w) X.A (setFlight (.ref a) X.env.frame) (fun _ s4 => wpAny (model X.prog X.w) X.A (throw (.ref a) : Sem Flow) (SP X pins D) X.xe s4) X.xe { s' with heap := h0 } := by
        rw [hf]
        exact HandSPX.setFlight_upZ fl0 fun h4 hh4 up4 => wpAny_throw (tk _ _ ⟨a, B, sI, pins, σ', H', cls, d, rfl, J, nb, (up.trans up0).trans up4, .inr (.inr (by rw [hs]; exact hh4)), na, os, ag, wish⟩)
      first
        | exact wpAny_bind (wpAny_pure (wpAny_bind out))
        | exact wpAny_bind out
    | @cons x n c i ts b₀ suite np pos' hds2 l2 hi hln hc hsu r ih =>
      rintro ⟨b, hb1, hyes, hno⟩
      have hloc : Loc X.env.scope n := .inl hln
      refine wpAny_handleBy_cons (codeAny_handlers_test ?_) (by intro q; cases q)
      have test : ∀ {Q : Value → Shared → Prop} {E : Value → Shared → Prop}, Q c { s' with heap := h0 } → wpAny (model X.prog X.w) (X.A.mark (some (.ref a))) (eval (.Name x np) X.env) Q E { s' with heap := h0 } := fun {Q E} q => by
        obtain ⟨hg, hdbg, hm | ⟨hm, hv, hnn⟩⟩ := hc
        · exact ld_glob (X := X.suite a ((a, oe0) :: (X.pn ++ pins))) S3 hg hm q hdbg
        · exact ld_blt (X := X.suite a ((a, oe0) :: (X.pn ++ pins))) S3 hg hm hv q hnn hdbg
      refine test ((PySem.W.exm_one (M := model X.prog X.w) J0.kIn LT hb1).here ?_)
      cases b with
      | false =>
        show wpAny _ X.A (handleBy (.ref a) X.env hds2) _ _ _
        exact ih (hno rfl)
      | true =>
        refine codeAny_handlers_suite_as ?_
        refine HandSPX.lands_againZ fl0 fun h4 fl4 up4 => ?_
        have J4 : Inv X pins σ' H' { s' with heap := h4 } := J.landed nb fl4.1 ((up.trans up0).trans up4) os ag
        obtain ⟨oe4, vs4, he4, hz4, hd4⟩ := fl4.there
        have S4 := J4.suite he4 hd4 na nL nF
        refine store_ok (X := X.suite a ((a, oe4) :: (X.pn ++ pins))) (v := .ref a) S4 hN hi hloc rfl (fun s5 S5 => ?_) (.inr hln)
        refine wpAny_mono ((hsu a oe4 cls d (X.pn ++ pins) hz4 ⟨_, hd4⟩).run [] s5 _ H' _ S5 (hyes rfl a na)) (fun f s6 hsp => ?_) (fun _ _ z => False.elim z)
        have end_ : ∀ {σ6 : L2.St} {H6 : Hp} {Q : Shared → Prop}, Inv (X.suite a ((a, oe4) :: (X.pn ++ pins))) [] σ6 H6 s6 → (∀ s7, Inv X pins (σ6.set i none) H6 s7 → Q s7) →
            wpAny (model X.prog X.w) X.A (do bindName X.env n .none; unbindBehindTheSuite X.env n pos') (fun _ s7 => Q s7) X.xe s6 := fun {σ6 H6 Q} S6 hq => gone_ok (S6.unsuite ok) hN hi hln hq
        cases f with
        | next =>
          obtain ⟨σ6, H6, S6, q6⟩ := hsp
          exact end_ S6 fun s7 J7 => ⟨_, _, J7, q6⟩
        | brk =>
          obtain ⟨σ6, H6, S6, q6⟩ := hsp
          exact end_ S6 fun s7 J7 => ⟨_, _, J7, q6⟩
        | cont =>
          obtain ⟨σ6, H6, S6, q6⟩ := hsp
          exact end_ S6 fun s7 J7 => ⟨_, _, J7, q6⟩
        | ret u =>
          obtain ⟨v6, σ6, H6, S6, r6, q6⟩ := hsp
          exact end_ S6 fun s7 J7 => ⟨_, _, _, J7, r6, q6⟩
  · cases f with
    | next =>
      obtain ⟨σ', H', J', q⟩ := hsp
      exact wpAny_execs_nil ⟨σ', H', J'.ofTry ok, q⟩
    | brk =>
      obtain ⟨σ', H', J', q⟩ := hsp
      exact ⟨σ', H', J'.ofTry ok, q⟩
    | cont =>
      obtain ⟨σ', H', J', q⟩ := hsp
      exact ⟨σ', H', J'.ofTry ok, q⟩
    | ret u =>
      obtain ⟨v, σ', H', J', r, q⟩ := hsp
      exact ⟨v, σ', H', J'.ofTry ok, r, q⟩
end
end Cr
/-! a lambda handed to a def that tries it: wishes at the slots; heaps but their tables -/
namespace Cr
open PySem PySem.Spec PyProof.Rows L2 Evl
/-! ### heaps without their tables -/
def noT (H : Hp) : Hp := fun a => match H a with
  | some (.tbl _) => none
  | o => o
def NoT (H : Hp) : Prop := ∀ a ps, H a ≠ some (.tbl ps)
theorem noT_of {H : Hp} {a : Addr} {o : HO} (h : H a = some o) (n : ∀ ps, o ≠ .tbl ps) : noT H a = some o := by
  unfold noT
  rw [h]
  cases o with
  | tbl ps => exact absurd rfl (n ps)
  | _ => rfl
theorem noT_some {H : Hp} {a : Addr} {o : HO} (h : noT H a = some o) : H a = some o ∧ ∀ ps, o ≠ .tbl ps := by
  unfold noT at h
  cases e : H a with
  | none => rw [e] at h; cases h
  | some u =>
    rw [e] at h
    cases u with
    | tbl ps => cases h
    | _ => exact ⟨h, fun ps z => by subst z; cases h⟩
theorem noT_no (H : Hp) : NoT (noT H) := fun a ps h => (noT_some h).2 ps rfl
theorem NoT.ex {H : Hp} (n : NoT H) {H1 H2 : Hp} (e : LamX.ExtN H1 H2) (h : Ex H H1) : Ex H H2 := fun a o z => e a o (h a o z) fun ps q => n a ps (by rw [← q]; exact z)
mutual
theorem Dt.exN {H H' : Hp} (e : LamX.ExtN H H') : ∀ {v : V} {d : PyData}, Dt H v d → Dt H' v d
  | _, _, .non => .non
  | _, _, .bl b => .bl b
  | _, _, .int i => .int i
  | _, _, .str x => .str x
  | _, _, .lst h k => .lst (e _ _ h fun _ z => nomatch z) (DtAll.exN e k)
  | _, _, .tup h k => .tup (e _ _ h fun _ z => nomatch z) (DtAll.exN e k)
  | _, _, .dct h k => .dct (e _ _ h fun _ z => nomatch z) (DtKv.exN e k)
theorem DtAll.exN {H H' : Hp} (e : LamX.ExtN H H') : ∀ {vs : List V} {ds : List PyData}, DtAll H vs ds → DtAll H' vs ds
  | _, _, .nil => .nil
  | _, _, .cons a b => .cons (Dt.exN e a) (DtAll.exN e b)
theorem DtKv.exN {H H' : Hp} (e : LamX.ExtN H H') : ∀ {kvs : List (Key × V)} {es : List (PyData × PyData)}, DtKv H kvs es → DtKv H' kvs es
  | _, _, .nil => .nil
  | _, _, .cons a b => .cons (Dt.exN e a) (DtKv.exN e b)
end
theorem exN_wo {p : Addr} {H H' : Hp} (e : LamX.ExtN H H') : LamX.ExtN (wo p H) (wo p H') := fun a o h n => by
  obtain ⟨k, z⟩ := wo_some h
  rw [wo_ne k]
  exact e a o z n
/-! ### the callee calls the lambda, what is raised wished for at its slots -/
section
variable {X : Cx} {pins : List (Addr × Obj)} {σ : L2.St} {H : Hp} {s : Shared}
theorem pe_actS {CXg : CXT} {Eg : XK} {Ng : List Str} {qg : Str} {sg : Scope} {g f c' : Addr} {cdg pm ctv : Value} {params : Arguments} {body : Expr} {scope : Scope} {k i : Nat} {a : Str} {pn : List (Addr × Obj)} {xe : Value → Shared → Prop} {W : WX} {tb : XK → TE} {p1 p2 : Pos}
    (I : Inv X pins σ H s) (L : LamX.LamS X.env.scope scope) (hf : s.heap.get? f = some (PySem.W.kla_obj "<lambda>" (X.env.qual ++ "<lambda>") params body scope (cloFrom X.env.cells scope.names []) pm c' ctv)) (hfn : H f = none) (hfr : f ∉ frs X.stack)
    (hbind : bindArgs (PySem.W.kla_fn "<lambda>" (X.env.qual ++ "<lambda>") params body scope (cloFrom X.env.cells scope.names []) pm (.ref c') ctv) ⟨[], []⟩ = pure [])
    (tk : Takes ((cxOf CXg X.prog X.w X.K X.mg X.base Ng qg sg g cdg X.A X.stack s H Eg).tr pn xe) W) (hq : Quiet X.A) (hr : Room (k + 1) (X.A.deeper (envOfC qg sg s.heap.objs.size g cdg)))
    (hbody : ∀ (A : Around) (outer : List Env) (s : Shared) (H : Hp) (E : XK), Quiet A → Room k (A.deeper (LamX.lamEnv X scope s.heap.objs.size f c')) → PE (LamX.lamCx X A outer s H E scope f c') body (tb E))
    (hN : Ng[i]? = some a) (hv : Vis sg a) (hd : (a == ("__debug__" : Str)) = false := by decide) (hcd : (a == ("__classdict__" : Str)) = false := by decide) :
    PE ((cxOf CXg X.prog X.w X.K X.mg X.base Ng qg sg g cdg X.A X.stack s H Eg).tr pn xe) (.Call (.Name a p1) [] [] p2)
      (fun σZ HZ Q => σZ[i]? = some (some (.ref f)) ∧ HZ c' = some (LamX.CodeO c' (X.env.qual ++ "<lambda>")) ∧ tb (WE W σZ) σ HZ Q) := by
  refine ⟨fun pinsZ sZ σZ HZ Q IZ h => ?_⟩
  obtain ⟨hs, hc, ht⟩ := h
  refine wpAny_Call_Name_kw (thn ((pe_var (pos := p1) (i := i) hN hv hd hcd).run pinsZ sZ σZ HZ (fun v H1 => v = .ref f ∧ H1 = HZ) IZ ⟨.ref f, hs, rfl, rfl⟩) fun u s1 ⟨v, H1, I1, r1, q1⟩ => ?_)
  obtain ⟨ev, eH⟩ := q1
  subst ev
  rw [eH] at I1
  obtain rfl : u = Value.ref f := r1
  have of1 : s1.heap.get? f = some (PySem.W.kla_obj "<lambda>" (X.env.qual ++ "<lambda>") params body scope (cloFrom X.env.cells scope.names []) pm c' ctv) := I1.base.keep f _ hf hfn hfr (fun z => nomatch (show f ∈ ([] : List Addr) from z))
  refine PySem.W.callWith_F0 ⟨_, _, _, _, of1⟩ ?_
  have un : Un (frs X.stack) [] H HZ s.heap s1.heap := I1.base
  obtain ⟨⟨oc, vs, t, hoc, hdc, hvc⟩, _, _⟩ := I1.hok c' _ hc
  have rc : codeAny (model X.prog X.w) (X.A.deeper (envOfC qg sg s.heap.objs.size g cdg)) (.call (.ref f) ⟨[], []⟩) (CR (L2.CX X.prog X.w) (envOfC qg sg s.heap.objs.size g cdg :: X.stack) X.prog X.w HZ s1 Q (WE W σZ)) s1 := by
    refine PySem.W.kla_callFunE hr.depth of1 rfl L.co L.gen rfl ⟨c', oc, vs, t, rfl, hoc, hdc, hvc⟩ ?_
    rw [hbind]
    refine wpAny_pure (wpAny_newFunctionEnv (fun y hy => (L.own y hy).2) (fun y hy => absurd hy (by simp)) (fun h₁ hns hsb => ⟨I1.nolimit.fresh _ hsb, ?_⟩) L.kind)
    show codeAny _ _ (.expr body (LamX.lamEnv X scope s1.heap.objs.size f c')) _ _
    have kp : ∀ b o, s1.heap.get? b = some o → h₁.get? b = some o := fun b o e => hsb.extBut b o (Nat.ne_of_lt (Heap.lt_size e)) (Heap.get?_push_of_some _ e)
    have J : Inv (LamX.lamCx X (X.A.deeper (envOfC qg sg s.heap.objs.size g cdg)) (envOfC qg sg s.heap.objs.size g cdg :: X.stack) s1 HZ (WE W σZ) scope f c') [] σ HZ { s1 with heap := h₁, toks := s1.toks + ([] : List (Str × Value)).length } :=
      LamX.lam_start2 I L I1.env0 hr.hd un hns kp
    refine PySem.W.kla_codeExpr (wpAny_mono ((hbody (X.A.deeper (envOfC qg sg s.heap.objs.size g cdg)) _ s1 HZ _ hq (hr.deeper _)).run [] _ _ HZ Q J ht) (fun v s' hq => ?_) fun e s' hq => hq)
    obtain ⟨w', H', J', rv, q⟩ := hq
    exact ⟨w', H', J'.os, J'.bare, J'.base, J'.hok, rv, q⟩
  have hx : PassesAt (L2.CX X.prog X.w) ((cxOf CXg X.prog X.w X.K X.mg X.base Ng qg sg g cdg X.A X.stack s H Eg).tr pn xe) σZ (WE W σZ) := passAt tk σZ
  refine wpAny_call (codeAny_mono rc fun r s' hq => ?_)
  cases r with
  | error e => exact hx pinsZ HZ s1 e s' I1 hq
  | ok fl =>
    cases fl with
    | ret u => exact I1.after hq
    | next => exact False.elim hq
    | brk => exact False.elim hq
    | cont => exact False.elim hq
end
/-- the def that calls what it got: TT is what it makes of the lambda's reading -/
def GivesS (X : Cx) (Ng : List Str) (x : Str) (sg : Scope) (g : Addr) (cdg : Value) (bg : List Stmt) (a : Str) (q : Str) (k : Nat) (TT : (XK → Hp → VK → Prop) → Hp → VK → Prop) : Prop :=
  ∀ (f c' : Addr) (s : Shared) (H : Hp) (Q : VK) (tl : XK → Hp → VK → Prop), Room k (X.A.deeper (envOfC x sg s.heap.objs.size g cdg)) →
    (∀ (W : WX) (pn : List (Addr × Obj)) (xe : Value → Shared → Prop) (p1 p2 : Pos), Takes ((cxOf CX0 X.prog X.w X.K X.mg X.base Ng x sg g cdg X.A X.stack s H E0).tr pn xe) W →
      PE ((cxOf CX0 X.prog X.w X.K X.mg X.base Ng x sg g cdg X.A X.stack s H E0).tr pn xe) (.Call (.Name a p1) [] [] p2) (fun σZ HZ Q => σZ[0]? = some (some (.ref f)) ∧ HZ c' = some (LamX.CodeO c' q) ∧ tl (WE W σZ) HZ Q)) →
    H c' = some (LamX.CodeO c' q) → TT tl H Q →
    ∃ t, PSs (cxOf CX0 X.prog X.w X.K X.mg X.base Ng x sg g cdg X.A X.stack s H E0).nox bg t ∧ t { nx := fun _ H' => Q .non H', rt := Q } (L2.start Ng [.ref f]) H
section
variable {X : Cx}
/-- x(lambda: body) -/
theorem pe_lamS {T : List (Addr × Str)} {TT : (XK → Hp → VK → Prop) → Hp → VK → Prop} {x a : Str} {g c P : Addr} {k : Nat} {pg : Arguments} {bg : List Stmt} {sg : Scope} {dV kV doc pm cdv ct oc : Value} {an od : Option Addr} {osl : Array (Option Value)} {Ng : List Str}
    {params : Arguments} {body : Expr} {scope : Scope} {t : XK → TE} {p lpos pos : Pos} (hg : Gl X x) (hm : X.mg x = some (.ref g)) (hk : PySem.W.keepIn X.K (.ref g) = true)
    (lk : X.K.lookup g = some ⟨oc, od, .func (PySem.W.fnOf x x pg bg sg dV kV doc pm an cdv ct), osl⟩) (hcg : PySem.W.codeIn X.K cdv x = true) (hb : L2.Binds X.K (PySem.W.fnOf x x pg bg sg dV kV doc pm an cdv ct) [a] []) (Sg : FnScope Ng [a] sg) (hNg : Ng[0]? = some a) (hva : Vis sg a)
    (hG : GivesS X Ng x sg g cdv bg a (X.env.qual ++ "<lambda>") (k + 1) TT)
    (TB : LamX.TabB X.base X.mg c P) (hcode : X.env.code = .ref c) (hmT : (P, X.env.qual ++ "<lambda>") ∈ T) (hu : ∀ p ∈ T, p.1 = P → p.2 = X.env.qual ++ "<lambda>") (hq : Quiet X.A) (hr : Room (k + 2) X.A) (L : LamX.LamS X.env.scope scope) (hdef : defaultsOf params X.env = ([], []))
    (hbind : ∀ (q : Str) (cl : List (Str × Addr)) (pm cv ctv : Value), bindArgs (PySem.W.kla_fn "<lambda>" q params body scope cl pm cv ctv) ⟨[], []⟩ = pure [])
    (hbody : ∀ (A : Around) (outer : List Env) (s : Shared) (H : Hp) (E : XK) (f c' : Addr), Quiet A → Room k (A.deeper (LamX.lamEnv X scope s.heap.objs.size f c')) → PE (LamX.lamCx X A outer s H E scope f c') body (t E))
    (hdb : (x == ("__debug__" : Str)) = false := by decide) (hd : (a == ("__debug__" : Str)) = false := by decide) (hcd : (a == ("__classdict__" : Str)) = false := by decide) :
    PE X (.Call (.Name x p) [.Lambda params body scope lpos] [] pos) (LamX.tLam T TT t) := by
  refine ⟨fun pins s σ H Q I h => ?_⟩
  obtain ⟨hT, h⟩ := h
  refine wpAny_Call_Name_kw (ld_glob I hg hm ?_ hdb)
  refine PySem.W.callWith_K (h₀ := X.base) I.ok.mod.kin hk ?_ (by rfl) (by rfl)
  show wpAny _ _ (spliced ((false, eval (.Lambda params body scope lpos) X.env) :: backTo pos (starEach [] X.env))) _ _ s
  refine Calls.spliced_cons (LamX.lam_make2 I TB hcode hmT hu hT hdef (L.has I.ok) fun f c' pm' ctv H1 s' I1 eN T1 hf hfn hfr hco => ?_)
  refine Calls.spliced_nil ⟨I1.kIn, ?_⟩
  have rc : codeAny (model X.prog X.w) X.A (.call (.ref g) ⟨[.ref f], []⟩) (CR CX0 X.stack X.prog X.w H1 s' Q E0) s' := by
    refine LamX.run_ofS (N := Ng) (ps := [a]) (us := [.ref f]) (vs := [.ref f]) lk hcg Sg hr I1.env0 (hb s' [.ref f] I1.kIn rfl) (.cons rfl .nil) rfl fun hr' => ?_
    obtain ⟨t', ht', hq'⟩ := hG f c' s' H1 Q (fun E H' Q' => t E σ H' Q') hr' (fun W pn xe p1 p2 tk => pe_actS (i := 0) I1 L hf hfn hfr (hbind _ _ _ _ _) tk hq hr' (fun A outer s H E hq2 hr2 => hbody A outer s H E f c' hq2 hr2) hNg hva hd hcd) hco (h H1 eN T1)
    exact ⟨t', ht'.nox, hq'⟩
  refine wpAny_call (codeAny_mono rc fun r s2 hq => ?_)
  cases r with
  | error e => exact (show False from hq).elim
  | ok fl =>
    cases fl with
    | ret u => exact I1.after hq
    | next => exact False.elim hq
    | brk => exact False.elim hq
    | cont => exact False.elim hq
end
end Cr
/-! k21: errors told -/
namespace Cr
open PySem PySem.Spec PyProof.Rows L2 Evl
abbrev sErr : Stmt := topS 24
abbrev nErr : List Str := ["_law_call", "_law_result", "e", "_law_is_right", "_law_is_other"]
theorem scErr : FnScope nErr ["_law_call"] (defScope sErr) := ⟨rfl, rfl, rfl, by decide +kernel, rfl, by decide +kernel, by decide +kernel⟩
/-- the classes of the errors -/
structure ErrQ (K : PySem.W.Frag) (mg : Str → Option Value) (CN CD CL CM CT : Addr) : Prop where
  gN : mg "InvalidName" = some (.ref CN)
  gD : mg "NoNeed" = some (.ref CD)
  gL : mg "LoaderError" = some (.ref CL)
  gM : mg "UnknownModule" = some (.ref CM)
  gT : mg "UnknownThread" = some (.ref CT)
  ecN : ExcC K CN
  ecD : ExcC K CD
  val : PySem.W.findIn K (.ref CN) "value" = some none
  src : PySem.W.findIn K (.ref CD) "source" = some none
  tgt : PySem.W.findIn K (.ref CD) "target" = some none
  xNN : PySem.W.exmOne K (.ref CN) (.ref CN) = some true
  xDN : PySem.W.exmOne K (.ref CD) (.ref CN) = some false
  xDD : PySem.W.exmOne K (.ref CD) (.ref CD) = some true
  nL : PySem.W.kitOne K (.ref CN) (.ref CL) = some true
  nV : PySem.W.kitOne K (.ref CN) (.type "ValueError") = some true
  nK : PySem.W.kitOne K (.ref CN) (.type "LookupError") = some false
  dL : PySem.W.kitOne K (.ref CD) (.ref CL) = some false
  dM : PySem.W.kitOne K (.ref CD) (.ref CM) = some false
  dT : PySem.W.kitOne K (.ref CD) (.ref CT) = some false
  dK : PySem.W.kitOne K (.ref CD) (.type "LookupError") = some true
theorem xfOfE {K : PySem.W.Frag} {C : Addr} (h : ExcC K C) : XfC K C := ⟨h.hg, h.hk, h.hs, h.hd⟩
def tOnlyC (C : Addr) (t : Addr → TS) (cls : Value) (d : Option Addr) : TS := fun D σ H => ∃ dd, cls = .ref C ∧ d = some dd ∧ t dd D σ H
abbrev nameD (d : PyData) : PyData := .list [.str "name", d]
abbrev needD (d e : PyData) : PyData := .list [.str "need", d, e]
theorem wordO {x : Str} (h : isNameS x = true) : Sz 2000 3 (.str x) := (nameO h).sz
theorem fitN {d : PyData} (h : OkO d) : Fits (nameD d) := (sz_list (sza_cons (wordO (by decide +kernel)) (sza_cons h.sz (sza_nil (b := 0))))).fits (by decide) (by decide)
theorem fitD {d e : PyData} (h : OkO d) (h2 : OkO e) : Fits (needD d e) := (sz_list (sza_cons (wordO (by decide +kernel)) (sza_cons h.sz (sza_cons h2.sz (sza_nil (b := 0)))))).fits (by decide) (by decide)
/-- what is told of the error that the lambda raises -/
def TTErr (CN CD : Addr) : (XK → Hp → VK → Prop) → Hp → VK → Prop := fun tl H Q => ∀ (E : XK) (R : VK),
  (∀ dx H1 v d, OkO d → H1 dx = some (.xd [("value", v)]) → Dt H1 v d → (∀ H2, Ex H1 H2 → Q (.str (nameD d).shown) H2) → E (.ref CN) (some dx) H1) →
  (∀ dx H1 v u d e, OkO d → OkO e → H1 dx = some (.xd [("target", u), ("source", v)]) → Dt H1 v d → Dt H1 u e → (∀ H2, Ex H1 H2 → Q (.str (needD d e).shown) H2) → E (.ref CD) (some dx) H1) → tl E H R
abbrev tIs (K : PySem.W.Frag) (C a dd : Addr) (c : V) : TE := tCB (rIsX K C a dd) (tCons (tVar 2) (tCons (tC c) tNil))
def tSuite1 (K : PySem.W.Frag) (CN CL a dd : Addr) : TS := tSeq (tAsg (tAndV (tIs K CN a dd (.ref CL)) (tIs K CN a dd (.ty "ValueError"))) (gName 3))
  (tAsg (tIf (tAnd (tB (tVar 3)) (tNot (tB (tIs K CN a dd (.ty "LookupError"))))) (tLst (tCons (tC (.str "name")) (tCons (tXf a (.ref CN) (some dd) CN "value" (tVar 2)) tNil))) (tLst (tCons (tC (.str "other")) tNil))) (gName 1))
def tSuite2 (K : PySem.W.Frag) (CD CL CM CT a dd : Addr) : TS := tSeq (tAsg (tOrV (tCB (rIsX K CD a dd) (tCons (tVar 2) (tCons (tTup (tCons (tC (.ref CL)) (tCons (tC (.ref CM)) (tCons (tC (.ref CT)) tNil)))) tNil))) (tNotV (tIs K CD a dd (.ty "LookupError")))) (gName 4))
  (tAsg (tIf (tB (tVar 4)) (tLst (tCons (tC (.str "other")) tNil)) (tLst (tCons (tC (.str "need")) (tCons (tXf a (.ref CD) (some dd) CD "source" (tVar 2)) (tCons (tXf a (.ref CD) (some dd) CD "target" (tVar 2)) tNil))))) (gName 1))
section
variable {P : Program} {w : World} {K : PySem.W.Frag} {mg : Str → Option Value} {base : Heap}
theorem err_body {A : Around} {outer : List Env} {k : Nat} {g CN CD CL CM CT f c' : Addr} {cdg : Value} {q : Str} {s : Shared} {H : Hp} {Q : VK} {tl : XK → Hp → VK → Prop} (B : Blt mg) (T : ErrQ K mg CN CD CL CM CT) (hqd : Quiet (A.deeper (envOfC "_law_error" (defScope sErr) s.heap.objs.size g cdg)))
    (hr : Room k (A.deeper (envOfC "_law_error" (defScope sErr) s.heap.objs.size g cdg)))
    (act : ∀ (W : WX) (pn : List (Addr × Obj)) (xe : Value → Shared → Prop) (p1 p2 : Pos), Takes ((cxOf CX0 P w K mg base nErr "_law_error" (defScope sErr) g cdg A outer s H E0).tr pn xe) W →
      PE ((cxOf CX0 P w K mg base nErr "_law_error" (defScope sErr) g cdg A outer s H E0).tr pn xe) (.Call (.Name "_law_call" p1) [] [] p2) (fun σZ HZ Q => σZ[0]? = some (some (.ref f)) ∧ HZ c' = some (LamX.CodeO c' q) ∧ tl (WE W σZ) HZ Q))
    (hc : H c' = some (LamX.CodeO c' q)) (h : TTErr CN CD tl H Q) :
    ∃ t, PSs (cxOf CX0 P w K mg base nErr "_law_error" (defScope sErr) g cdg A outer s H E0).nox (defBody sErr) t ∧ t { nx := fun _ H' => Q .non H', rt := Q } (L2.start nErr [.ref f]) H := by
  refine ⟨_, pss_cons (ps_set (i := 1) scErr.nd rfl (.inl rfl) pe_non)
    (pss_cons (ps_try_all (l := [((.ref CN : Value), 2, fun a => tOnlyC CN fun dd => tSuite1 K CN CL a dd), ((.ref CD : Value), 2, fun a => tOnlyC CD fun dd => tSuite2 K CD CL CM CT a dd)]) (Wout := fun _ _ _ _ => False) rfl rfl scErr.nd takes0
        (fun W pn xe tk po => pss_one (ps_expr (act W pn xe _ _ tk)))
        (.cons (by rfl) (by rfl) ⟨by rfl, by decide, .inl T.gN⟩ (fun a oe cls d pn hz hf => ⟨fun pins s σ H D I h => by
          obtain ⟨dd, rfl, rfl, h⟩ := h
          exact PSs.run (pss_cons (ps_set (i := 3) scErr.nd rfl (.inl rfl) (pe_and (pe_callB (call_isX T.ecN hz hf) (by rfl) B.isi bIsi (pa_cons (pv 2) (pa_cons (pe_glob (v := .ref CL) (by rfl) T.gL rfl) pa_nil))) (pe_one (pe_callB (call_isX T.ecN hz hf) (by rfl) B.isi bIsi (pa_cons (pv 2) (pa_cons (pe_bltn (v := .ty "ValueError") (by rfl) B.verr bVerr rfl) pa_nil))))))
            (pss_one (ps_set (i := 1) scErr.nd rfl (.inl rfl) (pe_ifExp (PW.pt (pw_and (pt_val (pv 3)) (pw_and1 (pt_not (pt_val (pe_callB (call_isX T.ecN hz hf) (by rfl) B.isi bIsi (pa_cons (pv 2) (pa_cons (pe_bltn (v := .ty "LookupError") (by rfl) B.lerr bLerr rfl) pa_nil)))))))) (pe_lst (pa_cons pe_str (pa_cons (pe_xf (xfOfE T.ecN) T.val hz hf (pv 2)) pa_nil))) (pe_lst (pa_cons pe_str pa_nil)))))) pins s σ H D I h⟩)
        (.cons (by rfl) (by rfl) ⟨by rfl, by decide, .inl T.gD⟩ (fun a oe cls d pn hz hf => ⟨fun pins s σ H D I h => by
          obtain ⟨dd, rfl, rfl, h⟩ := h
          exact PSs.run (pss_cons (ps_set (i := 4) scErr.nd rfl (.inl rfl) (pe_or (pe_callB (call_isX T.ecD hz hf) (by rfl) B.isi bIsi (pa_cons (pv 2) (pa_cons (pe_tup (pa_cons (pe_glob (v := .ref CL) (by rfl) T.gL rfl) (pa_cons (pe_glob (v := .ref CM) (by rfl) T.gM rfl) (pa_cons (pe_glob (v := .ref CT) (by rfl) T.gT rfl) pa_nil)))) pa_nil))) (pe_one (pe_not (pe_callB (call_isX T.ecD hz hf) (by rfl) B.isi bIsi (pa_cons (pv 2) (pa_cons (pe_bltn (v := .ty "LookupError") (by rfl) B.lerr bLerr rfl) pa_nil)))))))
            (pss_one (ps_set (i := 1) scErr.nd rfl (.inl rfl) (pe_ifExp (pt_val (pv 4)) (pe_lst (pa_cons pe_str pa_nil)) (pe_lst (pa_cons pe_str (pa_cons (pe_xf (xfOfE T.ecD) T.src hz hf (pv 2)) (pa_cons (pe_xf (xfOfE T.ecD) T.tgt hz hf (pv 2)) pa_nil)))))))) pins s σ H D I h⟩) .nil)))
    (pss_one (ps_ret (pe_callB (call_reprG hqd hr.units) (by rfl) B.repr bRepr (pa_cons (pv 1) pa_nil))))), ?_⟩
  refine q_asgAny ?_
  refine ⟨rfl, hc, h _ _ (fun dx H1 v d ok hx hd kk => ?_) (fun dx H1 v u d e ok ok2 hx hd he kk => ?_)⟩
  · refine ⟨true, T.xNN, fun _ a ha => ⟨dx, rfl, rfl, ?_⟩, fun z => nomatch z⟩
    have isOne : ∀ {σ : L2.St} {H3 : Hp} {c : V} {u : Value} {b : Bool}, Ex H1 H3 → σ[2]? = some (some (.ref a)) → ClsV c u → PySem.W.kitOne K (.ref CN) u = some b → Ev (tIs K CN a dx c) σ H3 (.bl b) := fun e3 h3 kc kb H4 e4 Q' q' =>
      ⟨.ref a, h3, _, _, rfl, ⟨_, e4 _ _ (e3 _ _ hx)⟩, .inl ⟨_, kc, kb⟩, q' _ (Ex.refl _)⟩
    refine q_asg (ev_andV (a := true) (b := true) (isOne (Ex.refl _) rfl (.own CL) T.nL) fun _ => isOne (Ex.refl _) rfl (.ty "ValueError") T.nV) fun H3 e3 => ?_
    have xf : EvD (tXf a (.ref CN) (some dx) CN "value" (tVar 2)) [some (.ref f), some .non, some (.ref a), some (.bl (true && true)), none] H3 d := fun H4 e4 Q' q' => ⟨.ref a, rfl, rfl, rfl, dx, _, v, rfl, e4 _ _ (e3 _ _ hx), by simp [List.lookup], q' _ H4 (Ex.refl _) (Dt.ex (e3.trans e4) hd)⟩
    have ed : EvD (tIf (tAnd (tB (tVar 3)) (tNot (tB (tIs K CN a dx (.ty "LookupError"))))) (tLst (tCons (tC (.str "name")) (tCons (tXf a (.ref CN) (some dx) CN "value" (tVar 2)) tNil))) (tLst (tCons (tC (.str "other")) tNil))) [some (.ref f), some .non, some (.ref a), some (.bl (true && true)), none] H3 (nameD d) :=
      evd_if (b := true) (et_is (et_and (a := true) (b := true) (et_B (ev_var rfl)) fun _ => et_is (et_not (et_B (isOne e3 rfl (.ty "LookupError") T.nK))) rfl) rfl) (fun _ => evd_lst (evda_cons evd_str (evda_cons xf evda_nil)) (by show 2 ≤ 1000; decide)) (fun z => nomatch z)
    refine ed H3 (Ex.refl _) _ fun w H4 e4 hw => ?_
    exact s_ret (ev_reprD (evd_var rfl hw) (fitN ok)) fun H5 e5 => kk H5 ((e3.trans e4).trans e5)
  · refine ⟨false, T.xDN, fun z => (nomatch z), fun _ => ⟨true, T.xDD, fun _ a ha => ⟨dx, rfl, rfl, ?_⟩, fun z => nomatch z⟩⟩
    have isT3 : Ev (tCB (rIsX K CD a dx) (tCons (tVar 2) (tCons (tTup (tCons (tC (.ref CL)) (tCons (tC (.ref CM)) (tCons (tC (.ref CT)) tNil)))) tNil))) [some (.ref f), some .non, some (.ref a), none, none] H1 (.bl false) := fun H3 e3 Q' q' =>
      ⟨.ref a, rfl, by show 3 ≤ sizeLine; decide, fun tp ztp => ⟨.ref tp, false, rfl, ⟨_, Ex.new ztp _ _ (e3 _ _ hx)⟩, .inr ⟨tp, _, [.ref CL, .ref CM, .ref CT], rfl, upd_same, .cons (.own CL) (.cons (.own CM) (.cons (.own CT) .nil)), kitAny_cons T.dL (fun _ => kitAny_cons T.dM (fun _ => kitAny_cons T.dT (fun _ => kitAny_nil) (fun z => nomatch z)) (fun z => nomatch z)) (fun z => nomatch z)⟩, q' _ (Ex.new ztp)⟩⟩
    have isOne : Ev (tIs K CD a dx (.ty "LookupError")) [some (.ref f), some .non, some (.ref a), none, none] H1 (.bl true) := fun H4 e4 Q' q' => ⟨.ref a, rfl, _, _, rfl, ⟨_, e4 _ _ hx⟩, .inl ⟨_, .ty "LookupError", T.dK⟩, q' _ (Ex.refl _)⟩
    refine q_asg (ev_orV (b := false) isT3 fun _ => ev_is (ev_notV isOne) rfl) fun H3 e3 => ?_
    have xf1 : EvD (tXf a (.ref CD) (some dx) CD "source" (tVar 2)) [some (.ref f), some .non, some (.ref a), none, some (.bl (false || false))] H3 d := fun H4 e4 Q' q' => ⟨.ref a, rfl, rfl, rfl, dx, _, v, rfl, e4 _ _ (e3 _ _ hx), by rw [List.lookup, show (("source" : Str) == "target") = false by decide +kernel, List.lookup, beq_self_eq_true], q' _ H4 (Ex.refl _) (Dt.ex (e3.trans e4) hd)⟩
    have xf2 : EvD (tXf a (.ref CD) (some dx) CD "target" (tVar 2)) [some (.ref f), some .non, some (.ref a), none, some (.bl (false || false))] H3 e := fun H4 e4 Q' q' => ⟨.ref a, rfl, rfl, rfl, dx, _, u, rfl, e4 _ _ (e3 _ _ hx), by simp [List.lookup], q' _ H4 (Ex.refl _) (Dt.ex (e3.trans e4) he)⟩
    have ed : EvD (tIf (tB (tVar 4)) (tLst (tCons (tC (.str "other")) tNil)) (tLst (tCons (tC (.str "need")) (tCons (tXf a (.ref CD) (some dx) CD "source" (tVar 2)) (tCons (tXf a (.ref CD) (some dx) CD "target" (tVar 2)) tNil))))) [some (.ref f), some .non, some (.ref a), none, some (.bl (false || false))] H3 (needD d e) :=
      evd_if (b := false) (et_is (et_B (ev_var rfl)) rfl) (fun z => nomatch z) (fun _ => evd_lst (evda_cons evd_str (evda_cons xf1 (evda_cons xf2 evda_nil))) (by show 3 ≤ 1000; decide))
    refine ed H3 (Ex.refl _) _ fun w H4 e4 hw => ?_
    exact s_ret (ev_reprD (evd_var rfl hw) (fitD ok ok2)) fun H5 e5 => kk H5 ((e3.trans e4).trans e5)
end
theorem err_gives {X : Cx} {k : Nat} {g CN CD CL CM CT : Addr} {cdg : Value} {q : Str} (B : Blt X.mg) (T : ErrQ X.K X.mg CN CD CL CM CT) (hq : Quiet X.A) : GivesS X nErr "_law_error" (defScope sErr) g cdg (defBody sErr) "_law_call" q k (TTErr CN CD) :=
  fun f c' s H Q tl hr act hc h => err_body B T hq hr act hc h
end Cr
/-! graphs of needs: a need deleted -/
namespace Cr
open PySem PySem.Spec PyProof.Rows L2 Evl
abbrev sNDel : Stmt := inClass (topS 14) 8
theorem scNDel : FnScope ["self", "source", "target"] ["self", "source", "target"] (defScope sNDel) := ⟨rfl, rfl, rfl, by decide +kernel, rfl, by decide +kernel, by decide +kernel⟩
def cutS (ts : List Str) (t : Str) : List Str := ts.filter fun u => decide (u ≠ t)
theorem cut_at {t : Str} : ∀ {ts : List Str}, ts.Nodup → t ∈ ts → ∃ j : Nat, ts[j]? = some t ∧ (∀ m : Nat, m < j → ts[m]? ≠ some t) ∧ ts.eraseIdx j = cutS ts t
  | a :: r, nd, h => by
    rw [List.nodup_cons] at nd
    by_cases e : a = t
    · subst e
      refine ⟨0, rfl, fun m hm => absurd hm (Nat.not_lt_zero _), ?_⟩
      show r = cutS (a :: r) a
      unfold cutS
      rw [List.filter_cons, if_neg (by simp)]
      exact (List.filter_eq_self.mpr fun u hu => decide_eq_true (p := u ≠ a) fun z => nd.1 (by rw [← z]; exact hu)).symm
    · obtain ⟨j, h1, h2, h3⟩ := cut_at nd.2 ((List.mem_cons.mp h).resolve_left fun z => e z.symm)
      refine ⟨j + 1, h1, fun m hm => ?_, ?_⟩
      · cases m with
        | zero => exact fun z => e (Option.some.inj z)
        | succ m => exact h2 m (by omega)
      · show a :: r.eraseIdx j = cutS (a :: r) t
        unfold cutS
        rw [List.filter_cons, if_pos (decide_eq_true e), h3]
        rfl
def cutG (g : List Row) (s t : Str) : List Row := g.map fun r => if r.s = s then ⟨r.s, r.a, cutS r.ts t⟩ else r
def delG (g : List Row) (s t : Str) : List Row := if cutS (tgS g s) t = [] then dropG g s else cutG g s t
theorem cut_kv (g : List Row) (s t : Str) : (cutG g s t).map kvR = g.map kvR := by
  unfold cutG
  rw [List.map_map]
  refine List.map_congr_left fun r _ => ?_
  show kvR (if r.s = s then ⟨r.s, r.a, cutS r.ts t⟩ else r) = kvR r
  by_cases h : r.s = s
  · rw [if_pos h]; rfl
  · rw [if_neg h]
theorem cut_s (r : Row) (s t : Str) : (if r.s = s then (⟨r.s, r.a, cutS r.ts t⟩ : Row) else r).s = r.s ∧ (if r.s = s then (⟨r.s, r.a, cutS r.ts t⟩ : Row) else r).a = r.a := by
  by_cases h : r.s = s
  · rw [if_pos h]; exact ⟨rfl, rfl⟩
  · rw [if_neg h]; exact ⟨rfl, rfl⟩
theorem rowOf_cut (g : List Row) (s t s' : Str) : rowOf (cutG g s t) s' = (rowOf g s').map fun r => if r.s = s then ⟨r.s, r.a, cutS r.ts t⟩ else r := by
  unfold rowOf cutG
  rw [List.find?_map]
  congr 1
  refine congrFun (congrArg List.find? ?_) g
  funext r
  show decide ((if r.s = s then (⟨r.s, r.a, cutS r.ts t⟩ : Row) else r).s = s') = decide (r.s = s')
  rw [(cut_s r s t).1]
theorem tgS_cut (g : List Row) (s t s' : Str) : tgS (cutG g s t) s' = if s' = s then cutS (tgS g s') t else tgS g s' := by
  unfold tgS
  rw [rowOf_cut]
  cases e : rowOf g s' with
  | none =>
    show ([] : List Str) = if s' = s then cutS [] t else []
    split <;> rfl
  | some r =>
    have er := (rowOf_mem e).2
    show (if r.s = s then (⟨r.s, r.a, cutS r.ts t⟩ : Row) else r).ts = if s' = s then cutS r.ts t else r.ts
    by_cases h : s' = s
    · rw [if_pos h, if_pos (er.trans h)]
    · rw [if_neg h, if_neg (fun z => h (er.symm.trans z))]
theorem tgS_del (g : List Row) (s t s' : Str) : tgS (delG g s t) s' = if s' = s then cutS (tgS g s') t else tgS g s' := by
  unfold delG
  by_cases h : cutS (tgS g s) t = []
  · rw [if_pos h, tgS_drop]
    by_cases e : s' = s
    · rw [if_pos e, if_pos e, e, h]
    · rw [if_neg e, if_neg e]
  · rw [if_neg h]
    exact tgS_cut g s t s'
theorem row_inj {g : List Row} (h : (g.map (·.a)).Nodup) {r r' : Row} (hr : r ∈ g) (hr' : r' ∈ g) (e : r.a = r'.a) : r = r' := by
  induction g with
  | nil => exact nomatch hr
  | cons y g ih =>
    rw [List.map_cons, List.nodup_cons] at h
    rcases List.mem_cons.mp hr with k1 | k1
    · rcases List.mem_cons.mp hr' with k2 | k2
      · rw [k1, k2]
      · refine absurd ?_ h.1
        rw [← k1, e]
        exact List.mem_map_of_mem k2
    · rcases List.mem_cons.mp hr' with k2 | k2
      · refine absurd ?_ h.1
        rw [← k2, ← e]
        exact List.mem_map_of_mem k1
      · exact ih h.2 k1 k2
theorem cut_ok {U : List Str} {g : List Row} (h : GOk U g) {s t : Str} (hn : cutS (tgS g s) t ≠ []) : GOk U (cutG g s t) := by
  have m : ∀ {r : Row}, r ∈ cutG g s t → ∃ y ∈ g, r.s = y.s ∧ ((y.s = s ∧ r.ts = cutS y.ts t) ∨ r.ts = y.ts) := fun {r} hr => by
    obtain ⟨y, hy, rfl⟩ := List.mem_map.mp hr
    refine ⟨y, hy, (cut_s y s t).1, ?_⟩
    by_cases e : y.s = s
    · rw [if_pos e]; exact .inl ⟨e, rfl⟩
    · rw [if_neg e]; exact .inr rfl
  refine ⟨h.un, h.uf, ?_, ?_, fun r hr => ?_, fun r hr => ?_, fun r hr => ?_, fun r hr u hu => ?_⟩
  · unfold cutG
    rw [List.map_map]
    have e : (fun y : Row => y.s) ∘ (fun r => if r.s = s then (⟨r.s, r.a, cutS r.ts t⟩ : Row) else r) = fun y : Row => y.s := by funext y; exact (cut_s y s t).1
    rw [e]; exact h.keys
  · unfold cutG
    rw [List.map_map]
    have e : (fun y : Row => y.a) ∘ (fun r => if r.s = s then (⟨r.s, r.a, cutS r.ts t⟩ : Row) else r) = fun y : Row => y.a := by funext y; exact (cut_s y s t).2
    rw [e]; exact h.ads
  · obtain ⟨y, hy, e, _⟩ := m hr
    rw [e]; exact h.nm y hy
  · obtain ⟨y, hy, _, ⟨e, e2⟩ | e2⟩ := m hr
    · rw [e2]
      have z : tgS g s = y.ts := by unfold tgS; rw [← e, rowOf_in h.keys hy]
      rw [z] at hn
      exact hn
    · rw [e2]; exact h.ne y hy
  · obtain ⟨y, hy, _, ⟨_, e2⟩ | e2⟩ := m hr
    · rw [e2]; exact List.Pairwise.sublist List.filter_sublist (h.up y hy)
    · rw [e2]; exact h.up y hy
  · obtain ⟨y, hy, _, ⟨_, e2⟩ | e2⟩ := m hr
    · rw [e2] at hu; exact h.tn y hy u (List.mem_filter.mp hu).1
    · rw [e2] at hu; exact h.tn y hy u hu
def spDel (C CD : Addr) (n : Nat) : Sp := fun vs H Q E => ∃ x v u d e A U g, vs = [.ref x, v, u] ∧ NdAt C H x A U g ∧ Dt H v d ∧ Dt H u e ∧ sm d = true ∧ sm e = true ∧ cpyTo n d ∧ cpyTo n e ∧ (isNd g d e = false → ∀ dx H', Rsd2 H H' dx "source" "target" d e → E (.ref CD) (some dx) H') ∧
  (∀ s t, d = .str s → e = .str t → t ∈ tgS g s → ∀ H', But (A.dd :: g.map (·.a)) H H' → NdAt C H' x A U (delG g s t) → Q .non H')
section
variable {P : Program} {w : World} {K : PySem.W.Frag} {mg : Str → Option Value} {base : Heap}
theorem ok_del {f C CD : Addr} {fd : FuncData} {k j n : Nat} (F : Fun K "delete" "Needs.delete" sNDel f fd) (B : Blt mg) (T : NdC K mg C) (hj : j + 1 ≤ k) (M : MkErr P w K mg base j CD "NoNeed" 2 (spInitB CD "source" "target" n)) (h3 : HasM P w K mg base CX0 k C "is_need" ["self", "source", "target"] (spIsNeed C)) :
    FnOk P w K mg base (L2.CX P w) (k + 1) f fd ["self", "source", "target"] (spDel C CD n) := by
  obtain ⟨f3, d3, G3, b3, m3⟩ := h3.ex
  obtain ⟨fI, fdI, bb, ps, lp, Ox, FI, bI, iI, tI, gC⟩ := M
  refine F.okX scNDel (fun vs H Q E h => by obtain ⟨_, _, _, _, _, _, _, _, rfl, _⟩ := h; rfl) (fun cdv A outer s H vs Q E hr h => ?_)
  obtain ⟨x, v, u, d, e, A', U, g, rfl, nd, hd, he, hs, hs2, hc, hc2, q1, q2⟩ := h
  have hu := hu_of hr
  refine ⟨_, pss_cons (ps_if (pt_not (pt_val (pe_meth (E := E0) (pv 0) T.cl m3 G3 hr b3 .nil pass0 (pa_cons (pv 1) (pa_cons (pv 2) pa_nil))))) (pss_one (ps_raise rfl (takes_of rfl rfl rfl rfl) (pmkG Ox iI tI FI (hr.mono hj) bI .nil pass0 (by rfl) gC (pa_cons (pv 1) (pa_cons (pv 2) pa_nil))))) pss_nil)
    (pss_cons (ps_expr (pe_bm PySem.F.plainAttrs_list PySem.F.slot_list_remove PySem.F.type_list_remove (mt_removeS hr.units) (pe_dget hu (pe_fld (pv 0) rfl) (pv 1) (fun _ _ => rfl)) (pa_cons (pv 2) pa_nil)))
    (pss_one (ps_if (pt_cmpR op_eq (pe_callB call_len_seq (by rfl) B.len bLen (pa_cons (pe_dget hu (pe_fld (pv 0) rfl) (pv 1) (fun _ _ => rfl)) pa_nil)) pe_int (nomark _)) (pss_one (ps_ddel (pe_fld (pv 0) rfl) (pv 1))) pss_nil))), ?_⟩
  refine q_when (b := !isNd g d e) (et_not (et_B (ev_meth (ev_var rfl) nd.ob rfl (ea_cons (ev_var rfl) (ea_cons (ev_var rfl) ea_nil)) (spv_isNeed nd hd he hs hs2)))) (fun hb H1 e1 => ?_) (fun hb H1 e1 => ?_)
  · rw [Bool.not_eq_true'] at hb
    exact mk_both ⟨v, rfl, u, rfl, v, u, d, e, rfl, Dt.ex e1 hd, hc, Dt.ex e1 he, hc2, fun dx H' r => q1 hb dx H' (r.back e1)⟩ (fun k ⟨i, e, i2, e2, r⟩ => ⟨i, e, i2, e2, k _ _ r⟩)
  rw [Bool.not_eq_false'] at hb
  obtain ⟨t0, rfl⟩ : ∃ t, e = .str t := by
    cases e with
    | str t => exact ⟨t, rfl⟩
    | _ => exact nomatch hb
  obtain ⟨s0, rfl⟩ : ∃ s, d = .str s := by
    have hb' : t0 ∈ tgD g d := of_decide_eq_true hb
    cases d with
    | str s => exact ⟨s, rfl⟩
    | _ => exact nomatch hb'
  cases hd with
  | str =>
  cases he with
  | str =>
  have mt : t0 ∈ tgS g s0 := of_decide_eq_true hb
  have nd1 := nd.ex e1
  obtain ⟨r0, hr0⟩ : ∃ r, rowOf g s0 = some r := by
    cases z : rowOf g s0 with
    | none => unfold tgS at mt; rw [z] at mt; exact nomatch mt
    | some r => exact ⟨r, rfl⟩
  obtain ⟨mr0, sr0⟩ := rowOf_mem hr0
  have ets : tgS g s0 = r0.ts := by unfold tgS; rw [hr0]
  obtain ⟨jj, h1, h2, h3'⟩ := cut_at (rise_nodup (nd.ok.up' s0)) mt
  have few := nd.ok.fewT s0
  have hl1 := nd1.tg hr0
  have gt1 : ∀ {H' : Hp}, H' A'.dd = some (.dK (g.map kvR)) → DGet H' A'.dd (.str s0) (some (.ref r0.a)) := fun h => by
    have z := DGet.k (k := Sum.inr s0) h
    rw [val_row, hr0] at z
    exact z
  refine ⟨.ref x, rfl, x, C, A'.dx, _, .ref A'.dd, rfl, nd1.ob, T.cl, T.nN, rfl, .str s0, rfl, A'.dd, .ref r0.a, rfl, gt1 nd1.di, .inl ⟨rfl, _, sq_of hl1⟩, .str t0, rfl, r0.a, tgS g s0, t0, jj, rfl, rfl, hl1, h1, h2, ?_⟩
  rw [h3']
  have nxr := nd.xa mr0
  have ndr := nd.da mr0
  have ob2 : (upd H1 r0.a (.lst ((cutS (tgS g s0) t0).map V.str))) x = some (.ins C A'.dx [("needed", .ref A'.dd)]) := by rw [upd_ne nxr]; exact nd1.ob
  have di2 : (upd H1 r0.a (.lst ((cutS (tgS g s0) t0).map V.str))) A'.dd = some (.dK (g.map kvR)) := by rw [upd_ne ndr]; exact nd1.di
  have other : ∀ {r : Row}, r ∈ g → r.s ≠ s0 → r.a ≠ r0.a := fun hr n e => n (by rw [row_inj nd.ok.ads hr mr0 e]; exact sr0)
  have ro : ∀ {H' : Hp} {c : Addr} {o : HO}, c ∉ A'.dd :: g.map (·.a) → H c = some o → c ≠ r0.a ∧ c ≠ A'.dd := fun n h => ⟨fun e => n (by rw [e]; exact List.mem_cons_of_mem _ (List.mem_map_of_mem mr0)), fun e => n (by rw [e]; exact List.mem_cons_self)⟩
  have l2 : Ev (tOp rEq (tCB (rLenS K) (tCons (tDGet (tFld K (tVar 0) "needed") (tVar 1)) tNil)) (tC (.int 0))) [some (.ref x), some (.str s0), some (.str t0)] (upd H1 r0.a (.lst ((cutS (tgS g s0) t0).map V.str))) (.bl (decide (((cutS (tgS g s0) t0).length : Int) = 0))) := by
    refine ev_is (ev_op (ev_cb (ea_cons (x := .ref r0.a) (fun H' e' Q q => ⟨.ref x, rfl, x, C, A'.dx, _, .ref A'.dd, rfl, e' _ _ ob2, T.cl, T.nN, rfl, .str s0, rfl, A'.dd, .ref r0.a, rfl, gt1 (e' _ _ di2), q H' (Ex.refl H')⟩) ea_nil) (rc_lenL (sq_of upd_same))) ev_c (rv_eq rfl)) ?_
    congr 1
    rw [List.length_map]
    exact decide_eq_decide.mpr ⟨fun z => V.int.inj z, fun z => by rw [z]⟩
  refine s_when (b := decide (((cutS (tgS g s0) t0).length : Int) = 0)) (et_test l2) (fun hb2 H3 e3 => ?_) (fun hb2 H3 e3 => ?_)
  · have c0 : cutS (tgS g s0) t0 = [] := List.length_eq_zero_iff.mp (by have := of_decide_eq_true hb2; omega)
    refine ⟨.ref x, rfl, x, C, A'.dx, _, .ref A'.dd, rfl, e3 _ _ ob2, T.cl, T.nN, rfl, .str s0, rfl, A'.dd, g.map kvR, Sum.inr s0, rfl, e3 _ _ di2, rfl, ?_, ?_⟩
    · rw [val_row, Option.isSome_map, hr0]; rfl
    rw [dropK_row]
    refine q2 s0 t0 rfl rfl mt _ (fun c o nc hc => ?_) ?_
    · obtain ⟨n1, n2⟩ := ro (H' := H) nc hc
      rw [upd_ne n2]
      exact e3 _ _ (by rw [upd_ne n1]; exact e1 _ _ hc)
    · unfold delG
      rw [if_pos c0]
      refine ⟨by rw [upd_ne nd.xd]; exact e3 _ _ ob2, upd_same, fun r hr => ?_, drop_ok nd.ok s0⟩
      have hr' := List.mem_filter.mp hr
      rw [upd_ne (nd.da hr'.1).symm]
      exact e3 _ _ (by rw [upd_ne (other hr'.1 (of_decide_eq_true hr'.2))]; exact nd1.ls r hr'.1)
  · have c0 : cutS (tgS g s0) t0 ≠ [] := fun z => by rw [z] at hb2; exact absurd hb2 (by decide)
    refine q2 s0 t0 rfl rfl mt _ (fun c o nc hc => ?_) ?_
    · obtain ⟨n1, n2⟩ := ro (H' := H) nc hc
      exact e3 _ _ (by rw [upd_ne n1]; exact e1 _ _ hc)
    · unfold delG
      rw [if_neg c0]
      refine NdAt.ex ⟨ob2, by rw [cut_kv]; exact di2, fun r hr => ?_, cut_ok nd.ok c0⟩ e3
      obtain ⟨y, hy, rfl⟩ := List.mem_map.mp hr
      by_cases ey : y.s = s0
      · rw [if_pos ey]
        have z : y = r0 := by
          have := rowOf_in nd.ok.keys hy
          rw [ey, hr0] at this
          exact (Option.some.inj this).symm
        subst z
        show (upd H1 y.a (.lst ((cutS (tgS g s0) t0).map V.str))) y.a = some (.lst ((cutS y.ts t0).map V.str))
        rw [upd_same, ets]
      · rw [if_neg ey, upd_ne (other hy ey)]
        exact nd1.ls y hy
end
end Cr
/-! graphs of needs: what changes, a need deleted -/
namespace Cr
open PySem PySem.Spec PyProof.Rows L2 Evl
theorem del_ads {g : List Row} {s t : Str} {r : Row} (h : r ∈ delG g s t) : ∃ r0 ∈ g, r.a = r0.a := by
  unfold delG at h
  split at h
  · exact ⟨r, (List.mem_filter.mp h).1, rfl⟩
  · obtain ⟨y, hy, e⟩ := List.mem_map.mp h
    exact ⟨y, hy, by rw [← e]; exact (cut_s y s t).2⟩
theorem del_of {C CD x : Addr} {n : Nat} {s t : Str} {A : NdA} {U : List Str} {g : List Row} {H : Hp} {Q : VK} {E : XK} (nd : NdAt C H x A U g) (n1 : 1 ≤ n) (m : t ∈ tgS g s)
    (k : ∀ g' H', But (A.dd :: g.map (·.a)) H H' → NdAt C H' x A U g' → (∀ q : Pr, q.2 ∈ tgS g' q.1 ↔ (q.2 ∈ tgS g q.1 ∧ q ≠ (s, t))) → (∀ r ∈ g', ∃ r0 ∈ g, r.a = r0.a) → Q .non H') : spDel C CD n [.ref x, .str s, .str t] H Q E := by
  obtain ⟨ns0, nt0⟩ := nd.ok.name m
  have cpn : ∀ {z : Str}, cpyTo n (.str z) := ⟨rfl, by show 0 < n; omega⟩
  refine ⟨x, .str s, .str t, .str s, .str t, A, U, g, rfl, nd, .str s, .str t, sm_name ns0, sm_name nt0, cpn, cpn, fun z => ?_, fun s' t' es et _ H1 b1 nd1 => ?_⟩
  · have : isNd g (.str s) (.str t) = true := decide_eq_true m
    rw [this] at z
    cases z
  · cases es
    cases et
    refine k _ H1 b1 nd1 (fun q' => ?_) fun r hr => del_ads hr
    rw [tgS_del]
    by_cases h : q'.1 = s
    · rw [if_pos h]
      unfold cutS
      rw [List.mem_filter, decide_eq_true_eq]
      constructor
      · rintro ⟨a, b⟩
        exact ⟨a, fun e => b (by rw [e])⟩
      · rintro ⟨a, b⟩
        exact ⟨a, fun e => b (Prod.ext h e)⟩
    · rw [if_neg h]
      constructor
      · exact fun a => ⟨a, fun e => h (by rw [e])⟩
      · exact fun a => a.1
end Cr
/-! xs[:] = ys -/
namespace Cr
open PySem PySem.Spec PyProof.Rows L2 Evl
theorem whole_b (n : Nat) : sliceBounds none none none n = ((0 : Int), (n : Int), 1) := rfl
section
variable {prog : Program} {w : World} {A : Around} {E : Value → Shared → Prop} {s : Shared}
set_option maxRecDepth 100000 in
theorem put_whole {l b sl : Addr} {u v : Array Value} {n m : Nat} {Q : Unit → Shared → Prop} (h1 : s.heap.get? l = some { cls := .type "list", data := .seq u n }) (h2 : s.heap.get? b = some { cls := .type "list", data := .seq v m }) (ne : l ≠ b)
    (hs : s.heap.IsSliceOf sl .none .none .none) (few : u.size + v.size ≤ sizeLine) (k : Q () { s with heap := s.heap.update l (Obj.mapSeq fun xs => xs.extract 0 0 ++ v ++ xs.extract u.size xs.size) }) : wpAny (model prog w) A (setItem (.ref l) (.ref sl) (.ref b)) Q E s := by
  have l1 : s.heap.IsList l u := PySem.IsL.isList h1
  have l2 : s.heap.IsList b v := PySem.IsL.isList h2
  obtain ⟨os, g1, g2, g3⟩ := id hs
  have ts : s.TypeIs (.ref sl) "slice" := ⟨os, g1, g2⟩
  have other : Builtin.List.listSameRef (.ref l) (.ref b) = false := by unfold Builtin.List.listSameRef; exact beq_eq_false_iff_ne.mpr ne
  have low : ((fun xs : Array Value => xs.extract 0 0 ++ v ++ xs.extract u.size xs.size) u).size ≤ sizeLine + 1 := by simp only [Array.size_append, Array.size_extract]; omega
  have mx : (max (0 : Int) (u.size : Int)).toNat = u.size := by omega
  unfold setItem
  with_reducible refine wpAny_holding ?_
  refine wpAny_bind (wpAny_sequenceKey l1.typeIs (by decide) ?_)
  refine wpAny_bind (wpAny_callSpecial?_slot (name := Str.ofString "__setitem__") l1.typeIs slot_list_setitem (wpAny_call_entry slot_list_setitem l1.typeIs entry_list_setitem ?_ (args_list_setitem _ _ _)))
  show wpAny _ _ (Builtin.List.listSubscript? (.ref sl) >>= _) _ _ s
  refine wpAny_bind ?_
  unfold Builtin.List.listSubscript?
  refine wpAny_bind (wpAny_specialOf ts slice_no_index ?_)
  simp only [Option.isNone_none, if_true]
  refine wpAny_pure ?_
  show wpAny _ _ (typeOf (.ref sl) >>= _) _ _ s
  refine wpAny_bind (wpAny_typeOf ts ?_)
  first | rw [if_neg (by decide)] | refine PySem.W.KFB.if_not (by decide) ?_
  rw [listSliceParts_eq]
  refine wpAny_bind (wpAny_bind (wpAny_field g1 g3 (x := .none) rfl (wpAny_bind (wpAny_listPart (k := none) .none ?_))))
  rw [if_neg (show ¬ ((rawPart none == rawInt 0) = true) from Bool.false_ne_true)]
  refine wpAny_bind (wpAny_field g1 g3 (x := .none) rfl (wpAny_bind (wpAny_listPart (k := none) .none ?_)))
  refine wpAny_bind (wpAny_field g1 g3 (x := .none) rfl (wpAny_bind (wpAny_listPart (k := none) .none (wpAny_pure ?_))))
  first | simp only [other, Bool.false_eq_true, if_false] | refine PySem.W.KFB.if_not other ?_
  refine wpAny_bind (m := Builtin.List.listAllItems (.ref b) "must assign iterable to extended slice") ?_
  unfold Builtin.List.listAllItems
  refine wpAny_bind (wpAny_typeOf l2.typeIs ?_)
  first | refine PySem.W.KFB.if_so (by decide) ?_ | rw [if_pos (by decide)]
  unfold Builtin.List.listItems
  refine wpAny_bind (wpAny_seqItems h2 rfl (wpAny_pure ?_))
  refine wpAny_bind (wpAny_bind (wpAny_seqItems h1 rfl (wpAny_pure ?_)))
  refine wpAny_bind (wpAny_of_eq ((sliceIndices_raw none none none u.size (by simp)).trans (congrArg (pure : Int × Int × Int → Sem (Int × Int × Int)) (whole_b u.size))) ?_)
  show wpAny _ _ (if ((1 : Int) == 1) = true then _ else _) _ _ s
  rw [if_pos (by decide)]
  refine wpAny_bind (wpAny_rule ?_)
  first | simp only [notLongL few, Bool.false_eq_true, if_false] | refine PySem.W.KFB.if_not (notLongL few) ?_
  show wpAny _ _ (updateSeq l (fun xs => xs.extract 0 ((0 : Int)).toNat ++ v ++ xs.extract (max (0 : Int) (u.size : Int)).toNat xs.size) >>= _) _ _ s
  rw [mx]
  refine wpAny_bind (wpAny_updateSeq (hz := Nat.le_trans (Nat.le_add_right _ _) few) (_hz' := low) h1 rfl ?_)
  refine wpAny_bind (wpAny_letGo ?_)
  exact wpAny_bind (wpAny_pure (wpAny_pure ⟨.none, rfl, wpAny_pure k⟩))
end
section
variable {X : Cx} {o : Expr} {to : TE} {p2 pos : Pos}
/-- o[:] = v -/
def gAll (to : TE) : TG := fun v σ H Q => to σ H fun o H1 => ∃ (l b : Addr) (xs ys : List V), o = .ref l ∧ v = .ref b ∧ l ≠ b ∧ H1 l = some (.lst xs) ∧ H1 b = some (.lst ys) ∧ xs.length + ys.length ≤ sizeLine ∧ Q σ (upd H1 l (.lst ys))
theorem pg_all (ho : PE X o to) : PG X (.Subscript o (.Slice none none none p2) pos) (gAll to) := by
  refine ⟨fun pins s σ H v u Q I r h => ?_⟩
  rw [arm_assign_Subscript]
  refine wpAny_bind (wpAny_holding (thn (ho.run pins s σ H _ I h) fun ov s1 ⟨x, H1, I1, r1, q1⟩ => ?_))
  obtain ⟨l, b, xs, ys, rfl, rfl, ne, hl, hb, few, q⟩ := q1
  cases r
  cases r1
  refine wpAny_bind (wpAny_holding (wpAny_Slice ?_))
  rw [evalPart_none]
  refine wpAny_pure (wpAny_pure (wpAny_pure ?_))
  have I2 : Inv X pins σ H1 { s1 with heap := s1.heap.push { cls := .type "slice", data := .fields #[.none, .none, .none] } } := I1.kept (t' := s1.toks) fun a ob q => Heap.get?_push_of_some _ q
  obtain ⟨z, its, n, rv, ln, e⟩ := I2.lstM hl
  obtain ⟨z2, its2, n2, rv2, ln2, e2⟩ := I2.lstM hb
  refine wpAny_bind (wpAny_standAt (wpAny_bind (wpAny_holding (put_whole e e2 ne (Heap.IsSliceOf.new ..) (by rw [List.size_toArray, List.size_toArray]; omega) ?_))))
  refine wpAny_release ⟨σ, _, I2.lset (its' := its2) (t' := s1.toks) hl e ?_ rv2 ?_, q⟩
  · apply Array.toList_inj.mp
    simp
  · omega
end
end Cr
/-! k21: heaps with tables; what the law keeps -/
namespace Cr
open PySem PySem.Spec PyProof.Rows L2 Evl
abbrev TabL := List (Addr × Str)
theorem NdAt.exN {C x : Addr} {A : NdA} {U : List Str} {g : List Row} {H H' : Hp} (h : NdAt C H x A U g) (e : LamX.ExtN H H') : NdAt C H' x A U g := ⟨e _ _ h.ob (fun _ z => nomatch z), e _ _ h.di (fun _ z => nomatch z), fun r hr => e _ _ (h.ls r hr) (fun _ z => nomatch z), h.ok⟩
theorem Pot.exN {p : Addr} {H H' : Hp} (h : Pot H p) (e : LamX.ExtN H H') : Pot H' p := by
  obtain ⟨i, j, hp, h'⟩ := h
  exact ⟨i, j, e _ _ hp (fun _ z => nomatch z), h'⟩
theorem Drew.exN {p : Addr} {HB H H' : Hp} (n : NoT HB) (r : Drew p HB H) (e : LamX.ExtN H H') : Drew p HB H' := by
  refine ⟨fun a o z => ?_, r.pot.exN e⟩
  obtain ⟨_, z0⟩ := wo_some z
  obtain ⟨k, z1⟩ := wo_some (r.ex a o z)
  rw [wo_ne k]
  exact e a o z1 fun ps q => n a ps (by rw [← q]; exact z0)
theorem Kp.exN {C : Addr} {HB H H' : Hp} {p x lp : Addr} {A : NdA} {g : List Row} {ns : List Str} {ps : List Pr} (n : NoT HB) (h : Kp C HB H p x lp A g ns ps) (e : LamX.ExtN H H') : Kp C HB H' p x lp A g ns ps :=
  ⟨⟨h.ng.nd.exN e, h.ng.zx, h.ng.zd, h.ng.za⟩, h.dr.exN n e, Dt.exN (exN_wo e) h.hp, h.dis, h.hm, h.zl⟩
theorem codeO_nl {c : Addr} {q : Str} {xs : List V} : LamX.CodeO c q ≠ .lst xs := fun z => by
  unfold LamX.CodeO at z
  cases z
theorem codeO_nd {c : Addr} {q : Str} {kv : List (Key × V)} : LamX.CodeO c q ≠ .dK kv := fun z => by
  unfold LamX.CodeO at z
  cases z
theorem tabs_but {T : TabL} {l : List Addr} {H H' : Hp} (t : LamX.Tabs T H) (b : But l H H') (hl : ∀ a ∈ l, (∃ xs, H a = some (.lst xs)) ∨ ∃ kv, H a = some (.dK kv)) : LamX.Tabs T H' := fun q hq => by
  obtain ⟨ps, h1, h2, h3⟩ := t q hq
  refine ⟨ps, b _ _ (fun m => ?_) h1, h2, fun pos cv hc => ?_⟩
  · rcases hl _ m with ⟨xs, z⟩ | ⟨kv, z⟩
    · rw [h1] at z; cases z
    · rw [h1] at z; cases z
  · obtain ⟨c, e1, e2⟩ := h3 pos cv hc
    refine ⟨c, e1, b _ _ (fun m => ?_) e2⟩
    rcases hl _ m with ⟨xs, z⟩ | ⟨kv, z⟩
    · rw [e2] at z; exact codeO_nl (Option.some.inj z)
    · rw [e2] at z; exact codeO_nd (Option.some.inj z)
theorem drew_but1 {p : Addr} {H H' : Hp} (r : Drew p H H') : But [p] H H' := fun a o n z => r.at (fun e => n (by rw [e]; exact List.mem_cons_self)) z
theorem tabs_drew {T : TabL} {p : Addr} {H H' : Hp} (t : LamX.Tabs T H) (pot : Pot H p) (r : Drew p H H') : LamX.Tabs T H' := tabs_but t (drew_but1 r) fun a ha => by
  obtain ⟨i, j, hp, _⟩ := pot
  rw [List.mem_singleton.mp ha]
  exact .inl ⟨_, hp⟩
/-- what the law's base has -/
structure LawB (HB : Hp) (p ln : Addr) (ns : List Str) : Prop where
  pot : Pot HB p
  nt : NoT HB
  hl : HB ln = some (.lst (ns.map V.str))
  nl : ln ≠ p
  n0 : 0 < ns.length
  n8 : ns.length ≤ 8
  nm : ∀ n ∈ ns, isNameS n = true
/-- .. and what it keeps -/
structure St (C : Addr) (HB H : Hp) (p x lp : Addr) (A : NdA) (g : List Row) (ns : List Str) (ps : List Pr) (T : TabL) : Prop where
  kp : Kp C HB H p x lp A g ns ps
  tb : LamX.Tabs T H
section
variable {C : Addr} {HB H H' H1 : Hp} {p x lp ln : Addr} {A : NdA} {g : List Row} {ns : List Str} {ps : List Pr} {T : TabL}
theorem St.drew (h : St C HB H p x lp A g ns ps T) (r : Drew p H H') : St C HB H' p x lp A g ns ps T := ⟨h.kp.drew r, tabs_drew h.tb h.kp.dr.pot r⟩
theorem St.ex (h : St C HB H p x lp A g ns ps T) (e : Ex H H') : St C HB H' p x lp A g ns ps T := h.drew (Drew.of h.kp.dr.pot e)
theorem St.exN (h : St C HB H p x lp A g ns ps T) (B : LawB HB p ln ns) (e : LamX.ExtN H H') (t : LamX.Tabs T H') : St C HB H' p x lp A g ns ps T := ⟨h.kp.exN B.nt e, t⟩
theorem St.pot (h : St C HB H p x lp A g ns ps T) : Pot H p := h.kp.dr.pot
theorem St.names (h : St C HB H p x lp A g ns ps T) (B : LawB HB p ln ns) : H ln = some (.lst (ns.map V.str)) := h.kp.dr.at B.nl B.hl
end
/-! ### the value of x(lambda) compared with a text -/
section
variable {T : TabL} {TT : (XK → Hp → VK → Prop) → Hp → VK → Prop} {t : XK → TE} {te : TE} {tw tz : TS} {D : Ends} {σ : L2.St} {H : Hp} {p : Addr} {x : Str}
theorem v_lam {r : R2} {b : Bool} {Q : VK} (hr : ∀ H, RV r (.str x) (.str x) H (.bl b)) (pot : Pot H p) (hT : LamX.Tabs T H)
    (hl : ∀ H1, LamX.ExtN H H1 → LamX.Tabs T H1 → Pot H1 p → ∀ Qx : VK, (∀ H2, Drew p H1 H2 → Qx (.str x) H2) → TT (fun E H' Q' => t E σ H' Q') H1 Qx)
    (k : ∀ H1 H2, LamX.ExtN H H1 → LamX.Tabs T H1 → Drew p H1 H2 → Ev te σ H2 (.str x))
    (kz : ∀ H1 H2, LamX.ExtN H H1 → LamX.Tabs T H1 → Drew p H1 H2 → Q (.bl b) H2) : tOp r (LamX.tLam T TT t) te σ H Q := by
  refine ⟨hT, fun H1 e1 t1 => hl H1 e1 t1 (pot.exN e1) _ fun H2 r2 => ?_⟩
  refine k H1 H2 e1 t1 r2 H2 (Ex.refl H2) _ fun H3 e3 => ?_
  have r3 := r2.trans (Drew.of r2.pot e3)
  exact hr H3 H3 (Ex.refl H3) _ fun H4 e4 => kz H1 H4 e1 t1 (r3.trans (Drew.of r3.pot e4))
theorem r_lamNe {R : Bool → Hp → Prop} (pot : Pot H p) (hT : LamX.Tabs T H)
    (hl : ∀ H1, LamX.ExtN H H1 → LamX.Tabs T H1 → Pot H1 p → ∀ Qx : VK, (∀ H2, Drew p H1 H2 → Qx (.str x) H2) → TT (fun E H' Q' => t E σ H' Q') H1 Qx)
    (k : ∀ H1 H2, LamX.ExtN H H1 → LamX.Tabs T H1 → Drew p H1 H2 → Ev te σ H2 (.str x))
    (kz : ∀ H1 H2, LamX.ExtN H H1 → LamX.Tabs T H1 → Drew p H1 H2 → R false H2) : tTest (tOp rNe (LamX.tLam T TT t) te) σ H R :=
  v_lam (b := false) (fun H => by have z := rv_ne (x := V.str x) (y := V.str x) (H := H) rfl; rw [decide_eq_true rfl] at z; exact z) pot hT hl k fun H1 H2 e1 t1 r2 => ⟨false, rfl, kz H1 H2 e1 t1 r2⟩
theorem q_lamNe (pot : Pot H p) (hT : LamX.Tabs T H)
    (hl : ∀ H1, LamX.ExtN H H1 → LamX.Tabs T H1 → Pot H1 p → ∀ Qx : VK, (∀ H2, Drew p H1 H2 → Qx (.str x) H2) → TT (fun E H' Q' => t E σ H' Q') H1 Qx)
    (k : ∀ H1 H2, LamX.ExtN H H1 → LamX.Tabs T H1 → Drew p H1 H2 → Ev te σ H2 (.str x))
    (kz : ∀ H1 H2, LamX.ExtN H H1 → LamX.Tabs T H1 → Drew p H1 H2 → tz D σ H2) : tSeq (tIfS (tTest (tOp rNe (LamX.tLam T TT t) te)) tw tNext) tz D σ H :=
  r_lamNe pot hT hl k kz
theorem s_lamEq (pot : Pot H p) (hT : LamX.Tabs T H)
    (hl : ∀ H1, LamX.ExtN H H1 → LamX.Tabs T H1 → Pot H1 p → ∀ Qx : VK, (∀ H2, Drew p H1 H2 → Qx (.str x) H2) → TT (fun E H' Q' => t E σ H' Q') H1 Qx)
    (k : ∀ H1 H2, LamX.ExtN H H1 → LamX.Tabs T H1 → Drew p H1 H2 → Ev te σ H2 (.str x))
    (kz : ∀ H1 H2, LamX.ExtN H H1 → LamX.Tabs T H1 → Drew p H1 H2 → D.rt (.bl true) H2) : tRet (tOp rEq (LamX.tLam T TT t) te) D σ H :=
  v_lam (b := true) (fun H => by have z := rv_eq (x := V.str x) (y := V.str x) (H := H) rfl; rw [decide_eq_true rfl] at z; exact z) pot hT hl k kz
end
/-! ### a def whose code object is known -/
structure FunC (K : PySem.W.Frag) (x qual : Str) (st : Stmt) (f : Addr) (fd : FuncData) (cdv : Value) : Prop where
  ex : ∃ (oc : Value) (od : Option Addr) (kV doc pm : Value) (an : Option Addr) (ct : Value) (osl : Array (Option Value)),
    fd = PySem.W.fnOf x qual (defArgs st) (defBody st) (defScope st) .none kV doc pm an cdv ct ∧ K.lookup f = some ⟨oc, od, .func fd, osl⟩ ∧ PySem.W.codeIn K cdv qual = true
def DefAtC (K : PySem.W.Frag) (x : Str) (st : Stmt) (cd : Value) : Prop := ∃ (f : Addr) (od an : Option Addr) (sl : Array (Option Value)) (oc kV dc pm ct : Value),
  PySem.W.nsIn K mainGlobals x = some (some (.ref f)) ∧ K.lookup f = some ⟨oc, od, .func (PySem.W.fnOf x x (defArgs st) (defBody st) (defScope st) .none kV dc pm an cd ct), sl⟩ ∧ PySem.W.codeIn K cd x = true ∧ PySem.W.keepIn K (.ref f) = true
theorem defAtC {K : PySem.W.Frag} {x : Str} {st : Stmt} {f : Addr} {od an : Option Addr} {sl : Array (Option Value)} {oc kV dc pm cd ct : Value} (a : PySem.W.nsIn K mainGlobals x = some (some (.ref f)))
    (l : K.lookup f = some ⟨oc, od, .func (PySem.W.fnOf x x (defArgs st) (defBody st) (defScope st) .none kV dc pm an cd ct), sl⟩) (c : PySem.W.codeIn K cd x = true) (k : PySem.W.keepIn K (.ref f) = true) : DefAtC K x st cd :=
  ⟨f, od, an, sl, oc, kV, dc, pm, ct, a, l, c, k⟩
section
variable {P : Program} {w : World} {K : PySem.W.Frag} {mg : Str → Option Value} {base : Heap}
theorem okGC {x qual : Str} {st : Stmt} {f : Addr} {fd : FuncData} {N ps : List Str} {k : Nat} {sp : Sp} {cdv : Value} (F : FunC K x qual st f fd cdv) (S : FnScope N ps (defScope st)) (len : ∀ vs H Q E, sp vs H Q E → vs.length = ps.length)
    (hbody : ∀ (A : Around) (outer : List Env) (s : Shared) (H : Hp) (vs : List V) (Q : VK) (E : XK), Quiet (A.deeper (envOfC qual (defScope st) s.heap.objs.size f cdv)) → Room k (A.deeper (envOfC qual (defScope st) s.heap.objs.size f cdv)) → sp vs H Q E →
      ∃ t, PSs (cxOf CX0 P w K mg base N qual (defScope st) f cdv A outer s H E).nox (defBody st) t ∧ t { nx := fun _ H' => Q .non H', rt := Q } (start N vs) H) : FnG P w K mg base CX0 (k + 1) f fd ps sp := by
  obtain ⟨oc, od, kV, doc, pm, an, ct, osl, rfl, lk, hcd⟩ := F.ex
  refine ⟨len, fun A outer s H args us vs Q E hq hr e0 hb r hsp => ?_⟩
  have keepB : ∀ b o, base.get? b = some o → s.heap.get? b = some o := fun b o e => (e0.bs b o e).1
  have kinds : ((ps.zip us).all fun y => (defScope st).names.lookup y.1 == some .local || (defScope st).names.lookup y.1 == some .cell) = true := by
    refine List.all_eq_true.mpr fun y hy => ?_
    obtain ⟨n, v⟩ := y
    rcases S.par n (List.of_mem_zip hy).1 with z | z
    · simp [z]
    · simp [z]
  refine Att.call_fn (binds := ps.zip us) (e0.mod.kin.keeps keepB) (e0.mod.nolimit.keeps keepB) lk hcd hr.depth hb kinds (fun s1 IC => ?_) S.co S.gen S.kind
  obtain ⟨t, ht, hT⟩ := hbody A outer s H vs Q E hq (hr.deeper _) hsp
  have I := inv_start (CX := CX0) (E := E) S hr.hd e0 (len _ _ _ _ hsp) r IC
  refine wpAny_mono (ht.nox.run [] s1 (start N vs) H _ I hT) (fun fl s2 h2 => ?_) fun e s2 h2 => h2
  match fl, h2 with
  | .ret u, ⟨v, σ2, H2, J, rv, q⟩ => exact ⟨v, H2, J.os, J.bare, J.base, J.hok, rv, q⟩
  | .next, ⟨σ2, H2, J, q⟩ => exact ⟨V.non, H2, J.os, J.bare, J.base, J.hok, rfl, q⟩
  | .brk, ⟨_, _, _, q⟩ => exact q.elim
  | .cont, ⟨_, _, _, q⟩ => exact q.elim
theorem has_mkC {h : Heap} {x : Str} {st : Stmt} {ps : List Str} {sp : Sp} {k : Nat} {cd : Value} (X : K.In h) (G : h.Ns mainGlobals mg) (D : DefAtC K x st cd) (hb : BindsAll x st ps) (ok : ∀ f fd, FunC K x x st f fd cd → FnG P w K mg base CX0 k f fd ps sp) : Has P w K mg base k x ps sp := by
  obtain ⟨f, od, an, sl, oc, kV, dc, pm, ct, a, l, c, kp⟩ := D
  exact ⟨⟨f, _, ok f _ ⟨⟨oc, od, kV, dc, pm, an, ct, sl, rfl, l, c⟩⟩, (fun_mk (st := st) l c kp).binds hb, kp, PySem.W.mg_of X G a⟩⟩
end
end Cr
/-! the tables of sets, up to 512 slots: rows of a hash and its slot -/
namespace Cr
open PySem PySem.Spec PyProof.Rows L2
def Msk (m : Nat) : Prop := m = 7 ∨ m = 31 ∨ m = 127 ∨ m = 511
def orb (m : Nat) : Nat → Nat → List Nat
  | 0, _ => []
  | k + 1, i => i :: orb m k ((i * 5 + 1) % (m + 1))
theorem lcg_head (m i : Nat) : ∀ n, lcgI m ((i * 5 + 1) % (m + 1)) n = lcgI m i (n + 1)
  | 0 => rfl
  | n + 1 => congrArg (fun z => (z * 5 + 1) % (m + 1)) (lcg_head m i n)
theorem orb_mem (m : Nat) : ∀ k i j, j ∈ orb m k i → ∃ n, n < k ∧ lcgI m i n = j
  | 0, _, _, h => nomatch h
  | k + 1, i, j, h => by
    rcases List.mem_cons.mp h with rfl | h
    · exact ⟨0, Nat.succ_pos k, rfl⟩
    · obtain ⟨n, hn, e⟩ := orb_mem m k _ j h
      exact ⟨n + 1, Nat.succ_lt_succ hn, (lcg_head m i n).symm.trans e⟩
def orbOk (m : Nat) : Bool := ((List.range (m + 1)).all fun j => (orb m (m + 1) 0).contains j) && lcgI m 0 (m + 1) == 0
theorem orb7 : orbOk 7 = true := by decide +kernel
theorem orb31 : orbOk 31 = true := by decide +kernel
theorem orb127 : orbOk 127 = true := by decide +kernel
theorem orb511 : orbOk 511 = true := by decide +kernel
theorem Msk.orb {m : Nat} (h : Msk m) : orbOk m = true := by
  rcases h with rfl | rfl | rfl | rfl
  · exact orb7
  · exact orb31
  · exact orb127
  · exact orb511
theorem Msk.odd {m : Nat} (h : Msk m) : m % 2 = 1 := by rcases h with rfl | rfl | rfl | rfl <;> rfl
theorem Msk.le {m : Nat} (h : Msk m) : m ≤ 511 := by rcases h with rfl | rfl | rfl | rfl <;> decide
theorem lcg_cat (m i : Nat) (a : Nat) : ∀ b, lcgI m (lcgI m i a) b = lcgI m i (a + b)
  | 0 => rfl
  | b + 1 => congrArg (fun z => (z * 5 + 1) % (m + 1)) (lcg_cat m i a b)
/-- a round of the leaps meets every slot -/
theorem Msk.round {m : Nat} (h : Msk m) {i j : Nat} (hi : i ≤ m) (hj : j ≤ m) : ∃ n, n ≤ m ∧ lcgI m i n = j := by
  have ok := h.orb
  unfold orbOk at ok
  rw [Bool.and_eq_true, List.all_eq_true, beq_iff_eq] at ok
  have from0 : ∀ x, x ≤ m → ∃ n, n < m + 1 ∧ lcgI m 0 n = x := fun x hx =>
    orb_mem m _ _ _ (List.contains_iff_mem.mp (ok.1 x (List.mem_range.mpr (Nat.lt_succ_of_le hx))))
  obtain ⟨a, la, rfl⟩ := from0 i hi
  obtain ⟨b, lb, rfl⟩ := from0 j hj
  by_cases c : a ≤ b
  · exact ⟨b - a, by omega, by rw [lcg_cat]; congr 1; omega⟩
  · refine ⟨(m + 1 - a) + b, by omega, ?_⟩
    rw [lcg_cat, show a + (m + 1 - a + b) = (m + 1) + b by omega, ← lcg_cat, ok.2]
theorem Msk.starts {m : Nat} (hm : Msk m) (h : Int) {j : Nat} (hj : j ≤ m) : ∃ n, n ≤ m + 12 ∧ runI m (SetTable.bits h) n = j := by
  obtain ⟨n, ln, e⟩ := hm.round (runI_le m (SetTable.bits h) 12) hj
  refine ⟨12 + n, by omega, ?_⟩
  rw [runI_tail (bits_lt h), e]
theorem Msk.meets {m : Nat} (hm : Msk m) (h : Int) {j : Nat} (hj : j ≤ m) : ∃ k, k < 10 * SetTable.turns m ∧ way m h k = j := by
  obtain ⟨n, ln, e⟩ := hm.starts h hj
  obtain ⟨k, lk, e2⟩ := run_nth m (SetTable.bits h) n
  refine ⟨k, ?_, (congrArg SetTable.Probe.j e2).trans e⟩
  unfold SetTable.turns
  omega
theorem way_low (m : Nat) (h : Int) (k : Nat) : way m h k ≤ m := by
  have lo : SetTable.bits h % (m + 1) < m + 1 := Nat.mod_lt _ (Nat.succ_pos m)
  have z := nth_in (m := m) k (runAt m (SetTable.bits h % (m + 1)) (SetTable.bits h)) (by
    have r := runEnd_bd (Nat.le_of_lt_succ lo)
    unfold runAt
    dsimp only
    omega)
  exact Nat.le_trans (Nat.le_add_right _ _) z
/-- the first step of the way at which p -/
theorem first_slot {p : Nat → Prop} (n : Nat) (hn : p n) : ∃ k, k ≤ n ∧ p k ∧ ∀ c, c < k → ¬ p c := st_least n hn
/-! ### a table and its rows -/
structure Tbl (t : SetTable) (ps : List (Int × Nat)) : Prop where
  at_ : t.place.toList = ps.map (·.2)
  up : Ris (ps.map (·.2))
  nodm : t.dummies = #[]
  msk : Msk t.mask
  low : ∀ p ∈ ps, p.2 ≤ t.mask
  goes : ∀ p ∈ ps, ∃ k, way t.mask p.1 k = p.2 ∧ ∀ c, c < k → way t.mask p.1 c ∈ ps.map (·.2)
section
variable {t : SetTable} {ps : List (Int × Nat)}
theorem Tbl.size (T : Tbl t ps) : t.place.size = ps.length := by
  have z := congrArg List.length T.at_
  rwa [Array.length_toList, List.length_map] at z
theorem Tbl.ris (T : Tbl t ps) : Ris t.place.toList := by rw [T.at_]; exact T.up
theorem Tbl.fits (T : Tbl t ps) (h : ps.length ≤ t.mask) : t.fits ps.length = true := by
  unfold SetTable.fits SetTable.fill
  rw [T.nodm, T.size]
  simp
  exact h
theorem Tbl.free (T : Tbl t ps) (hl : ps.length ≤ t.mask) (h : Int) : ∃ K, K < 10 * SetTable.turns t.mask ∧ way t.mask h K ∉ ps.map (·.2) ∧ ∀ c, c < K → way t.mask h c ∈ ps.map (·.2) := by
  obtain ⟨j, hj, hn⟩ := st_missing (ps.map (·.2)) (t.mask + 1) (by rw [List.length_map]; omega)
  obtain ⟨k, lk, e⟩ := T.msk.meets h (Nat.le_of_lt_succ hj)
  obtain ⟨K, l1, l2, l3⟩ := first_slot (p := fun c => way t.mask h c ∉ ps.map (·.2)) k (by show way t.mask h k ∉ _; rw [e]; exact hn)
  exact ⟨K, Nat.lt_of_le_of_lt l1 lk, l2, fun c hc => Classical.not_not.mp (l3 c hc)⟩
/-- a row's slot is met ahead of the first free one -/
theorem Tbl.ahead (T : Tbl t ps) {p : Int × Nat} (hp : p ∈ ps) {K : Nat} (hK : way t.mask p.1 K ∉ ps.map (·.2)) : ∃ c, c < K ∧ way t.mask p.1 c = p.2 := by
  obtain ⟨k, e, hb⟩ := T.goes p hp
  refine ⟨k, ?_, e⟩
  rcases Nat.lt_trichotomy k K with z | z | z
  · exact z
  · subst z
    exact absurd (List.mem_map.mpr ⟨p, hp, e.symm⟩) hK
  · exact absurd (hb K z) hK
abbrev ins {α : Type} (l : List α) (b : Nat) (x : α) : List α := l.take b ++ x :: l.drop b
theorem map_ins {α β : Type} (f : α → β) (l : List α) (b : Nat) (x : α) : (ins l b x).map f = ins (l.map f) b (f x) := by
  unfold ins
  rw [List.map_append, List.map_cons, List.map_take, List.map_drop]
theorem ins_perm {α : Type} (l : List α) (b : Nat) (x : α) : (ins l b x).Perm (x :: l) := by
  have z : (ins l b x).Perm (x :: (l.take b ++ l.drop b)) := List.perm_middle
  rwa [List.take_append_drop] at z
/-- a row more -/
theorem Tbl.more (T : Tbl t ps) {h : Int} {K : Nat} (hK : way t.mask h K ∉ ps.map (·.2)) (hb : ∀ c, c < K → way t.mask h c ∈ ps.map (·.2)) :
    (t.put (way t.mask h K)).2 = SetTable.below t.place (way t.mask h K) ∧ Tbl (t.put (way t.mask h K)).1 (ins ps (SetTable.below t.place (way t.mask h K)) (h, way t.mask h K)) ∧
    (t.put (way t.mask h K)).1.mask = t.mask ∧ (t.put (way t.mask h K)).1.led = t.led := by
  have lo := way_low t.mask h K
  obtain ⟨j, ej⟩ : ∃ j, j = way t.mask h K := ⟨_, rfl⟩
  rw [← ej] at hK lo ⊢
  have nat : t.place[SetTable.below t.place j]? ≠ some j := fun e => hK (by
    rw [← T.at_]
    exact List.mem_of_getElem? (by rw [Array.getElem?_toList]; exact e))
  have pm := ins_perm ps (SetTable.below t.place j) (h, j)
  have pl : (t.put j).1.place.toList = (ins ps (SetTable.below t.place j) (h, j)).map (·.2) := by
    rw [put_place, map_ins, T.at_]
  have up : ∀ {x : Nat}, x ∈ ps.map (·.2) → x ∈ (ins ps (SetTable.below t.place j) (h, j)).map (·.2) := fun {x} hx =>
    (pm.map (·.2)).mem_iff.mpr (List.mem_cons_of_mem _ hx)
  refine ⟨rfl, ⟨pl, ?_, put_dm T.nodm j, T.msk, fun p hp => ?_, fun p hp => ?_⟩, rfl, rfl⟩
  · have z : Ris (t.put j).1.place.toList := ris_insert T.ris nat
    rwa [pl] at z
  · rcases List.mem_cons.mp (pm.mem_iff.mp hp) with rfl | hp
    · exact lo
    · exact T.low p hp
  · show ∃ k, way t.mask p.1 k = p.2 ∧ _
    rcases List.mem_cons.mp (pm.mem_iff.mp hp) with rfl | hp
    · exact ⟨K, ej.symm, fun c hc => up (hb c hc)⟩
    · obtain ⟨k, e, z⟩ := T.goes p hp
      exact ⟨k, e, fun c hc => up (z c hc)⟩
end
/-! ### all laid anew -/
theorem lay_free {m : Nat} (hm : Msk m) (ow : Array (Option Nat)) (h : Int) {j : Nat} (hj : j ≤ m) (e0 : oAt ow j = none) :
    ∃ K, SetTable.layClean.free m ow (SetTable.turns m) (SetTable.bits h % (m + 1)) (SetTable.bits h) = some (way m h K) ∧ oAt ow (way m h K) = none ∧ ∀ c, c < K → oAt ow (way m h c) ≠ none := by
  obtain ⟨n, ln, e⟩ := hm.starts h hj
  have at_ : way m h (off m (SetTable.bits h % (m + 1)) (SetTable.bits h) n) = j := by
    have z := nth_off m n (SetTable.bits h % (m + 1)) (SetTable.bits h)
    rw [itL_run] at z
    exact (congrArg SetTable.Probe.j z).trans e
  obtain ⟨K, l1, l2, l3⟩ := first_slot (p := fun c => oAt ow (way m h c) = none) _ (by show oAt ow (way m h _) = none; rw [at_]; exact e0)
  refine ⟨K, free_spec m ow (SetTable.turns m) n _ _ K (by unfold SetTable.turns; omega) l1 (fun c hc => ?_) (by rw [Option.isNone_iff_eq_none]; exact l2), l2, l3⟩
  rw [Option.isNone_eq_false_iff, Option.isSome_iff_ne_none]
  exact l3 c hc
theorem lay_one {m : Nat} (hm : Msk m) {done : List Int} {ow : Array (Option Nat)} (W : Own m done ow) (hl : done.length ≤ m) (h : Int) :
    ∃ j, SetTable.layClean.free m ow (SetTable.turns m) (SetTable.bits h % (m + 1)) (SetTable.bits h) = some j ∧ Own m (done ++ [h]) (ow.setIfInBounds j (some done.length)) := by
  obtain ⟨qs, lq, hq⟩ := W.ps
  obtain ⟨i, li, ni⟩ := st_missing qs (m + 1) (by omega)
  have ei : oAt ow i = none := Classical.not_not.mp fun z => ni (hq i (Nat.le_of_lt_succ li) z)
  obtain ⟨K, e1, e2, e3⟩ := lay_free hm ow h (Nat.le_of_lt_succ li) ei
  have lo := way_low m h K
  refine ⟨way m h K, e1, ?_⟩
  generalize ej : way m h K = j at e1 e2 lo ⊢
  have here : oAt (ow.setIfInBounds j (some done.length)) j = some done.length := oAt_set_self _ (by rw [W.sz]; omega)
  have there : ∀ {i : Nat}, i ≠ j → oAt (ow.setIfInBounds j (some done.length)) i = oAt ow i := fun z => oAt_set_ne _ z
  have kept : ∀ {i : Nat}, oAt ow i ≠ none → oAt (ow.setIfInBounds j (some done.length)) i ≠ none := fun {i} z => by
    have ne : i ≠ j := fun e => z (by rw [e]; exact e2)
    rw [there ne]
    exact z
  exact
    { sz := by rw [Array.size_setIfInBounds, W.sz]
      at_ := fun i k li e => by
        by_cases c : i = j
        · subst c
          rw [here] at e
          cases e
          exact ⟨h, K, by rw [List.getElem?_append_right (Nat.le_refl _), Nat.sub_self]; rfl, ej, fun c hc => kept (e3 c hc)⟩
        · rw [there c] at e
          obtain ⟨g, G, a1, a2, a3⟩ := W.at_ i k li e
          exact ⟨g, G, by rw [List.getElem?_append_left (List.getElem?_eq_some_iff.mp a1).1, a1], a2, fun c hc => kept (a3 c hc)⟩
      all := fun k hk => by
        rw [List.length_append, List.length_singleton] at hk
        by_cases c : k = done.length
        · exact ⟨j, lo, c ▸ here⟩
        · obtain ⟨i, li, e⟩ := W.all k (by omega)
          exact ⟨i, li, by rw [there fun z => by rw [z, e2] at e; cases e]; exact e⟩
      ps := ⟨j :: qs, by rw [List.length_cons, List.length_append, List.length_singleton, lq], fun i li z => by
        by_cases c : i = j
        · exact c ▸ List.mem_cons_self
        · rw [there c] at z
          exact List.mem_cons_of_mem _ (hq i li z)⟩ }
theorem lay_all {m : Nat} (hm : Msk m) : ∀ (rest done : List Int) (ow : Array (Option Nat)), Own m done ow → (done ++ rest).length ≤ m →
    ∃ ow', rest.foldl (stepF m) (some (ow, done.length)) = some (ow', (done ++ rest).length) ∧ Own m (done ++ rest) ow'
  | [], done, ow, W, _ => by
    rw [List.append_nil]
    exact ⟨ow, rfl, W⟩
  | h :: rest, done, ow, W, hl => by
    have ea : done ++ h :: rest = (done ++ [h]) ++ rest := by rw [List.append_assoc, List.singleton_append]
    rw [List.length_append, List.length_cons] at hl
    obtain ⟨j, e, W1⟩ := lay_one hm W (by omega) h
    obtain ⟨ow', f, W2⟩ := lay_all hm rest (done ++ [h]) _ W1 (by rw [← ea, List.length_append, List.length_cons]; omega)
    rw [List.length_append, List.length_singleton] at f
    rw [List.foldl_cons, stepF_some e, ea]
    exact ⟨ow', f, W2⟩
/-- laid anew in a larger table: an order of the rows, and where they stand -/
theorem lay_anew (t : SetTable) {hs : Array Int} {wanted M : Nat} (hw : SetTable.sizeAbove wanted - 1 = M) (hM : Msk M) (hn : hs.size ≤ M) :
    ∃ (t' : SetTable) (js : List (Nat × Nat)), t.relaid hs wanted = some (t', (js.map (·.2)).toArray) ∧ (js.map (·.2)).Perm (List.range hs.size) ∧ Tbl t' (js.map fun q => (hs.toList.getD q.2 0, q.1)) ∧ t'.mask = M ∧ t'.led = t.led := by
  obtain ⟨ow, f, W⟩ := lay_all hM hs.toList [] _ (Own.init M) (by rw [List.nil_append, Array.length_toList]; exact hn)
  rw [List.nil_append] at f W
  have lc : SetTable.layClean M hs = some ow := by
    rw [layClean_eq]
    exact congrArg (Option.map (·.1)) f
  have rel : t.relaid hs wanted = some (tabOf t M ow, ((liveOf M ow).map (·.2)).toArray) := by
    rw [relaid_eq, hw, lc]
    rfl
  obtain ⟨r1, r2⟩ := ris_live (fun j => ow.getD j none) (List.range (M + 1)) (List.pairwise_lt_range (n := M + 1))
  have up : Ris ((liveOf M ow).map (·.1)) := r1
  have once : ((liveOf M ow).map (·.1)).Nodup := List.Pairwise.imp Nat.ne_of_lt up
  have covers : ∀ k, k < hs.size → k ∈ (liveOf M ow).map (·.2) := fun k hk => by
    obtain ⟨j, lj, e⟩ := W.all k hk
    exact List.mem_map.mpr ⟨(j, k), (mem_live W.sz).mpr ⟨lj, e⟩, rfl⟩
  have len : (liveOf M ow).length = hs.size := by
    obtain ⟨qs, lq, hq⟩ := W.ps
    have a := nat_nodup_len _ qs once fun j hj => by
      obtain ⟨⟨j', k⟩, hm, rfl⟩ := List.mem_map.mp hj
      obtain ⟨l1, l2⟩ := (mem_live W.sz).mp hm
      exact hq _ l1 (by rw [l2]; exact Option.some_ne_none k)
    have b := nat_nodup_len (List.range hs.size) _ List.nodup_range fun k hk => covers k (List.mem_range.mp hk)
    rw [List.length_map] at a b
    rw [List.length_range] at b
    have lz : qs.length = hs.size := lq
    omega
  refine ⟨_, liveOf M ow, rel, perm_range _ _ (by rw [List.length_map]; exact len) covers, ?_, rfl, rfl⟩
  have seats : (liveOf M ow).map (·.1) = ((liveOf M ow).map fun q => (hs.toList.getD q.2 0, q.1)).map (·.2) := by rw [List.map_map]; rfl
  refine ⟨seats, seats ▸ up, rfl, hM, fun p hp => ?_, fun p hp => ?_⟩
  · obtain ⟨⟨j, k⟩, hm, rfl⟩ := List.mem_map.mp hp
    exact ((mem_live W.sz).mp hm).1
  · obtain ⟨⟨j, k⟩, hm, rfl⟩ := List.mem_map.mp hp
    obtain ⟨lj, e⟩ := (mem_live W.sz).mp hm
    obtain ⟨g, K, a1, a2, a3⟩ := W.at_ j k lj e
    have eg : hs.toList.getD k 0 = g := by rw [List.getD_eq_getElem?_getD, a1]; rfl
    show ∃ c, way M (hs.toList.getD k 0) c = j ∧ _
    rw [eg]
    refine ⟨K, a2, fun c hc => ?_⟩
    show way M g c ∈ _
    rw [← seats]
    obtain ⟨k2, e2⟩ := Option.ne_none_iff_exists'.mp (a3 c hc)
    exact List.mem_map.mpr ⟨(_, k2), (mem_live W.sz).mpr ⟨way_low M g c, e2⟩, rfl⟩
theorem grown5 : SetTable.sizeAbove (SetTable.grown 5) - 1 = 31 := by decide +kernel
theorem grown19 : SetTable.sizeAbove (SetTable.grown 19) - 1 = 127 := by decide +kernel
theorem grown77 : SetTable.sizeAbove (SetTable.grown 77) - 1 = 511 := by decide +kernel
end Cr
/-! sets of tuples of texts: a tuple is added -/
namespace Cr
open PySem PySem.Spec PyProof.Rows L2
abbrev IsTx (P : Program) (w : World) (h : Heap) (k : List Str) (a : Addr) : Prop := IsTupleKey (PySem.strKind P w) h k a
abbrev hTx (P : Program) (w : World) (k : List Str) : Int := tupleKeyHash (PySem.strKind P w) k
abbrev TRow := Addr × List Str
def rowV (P : Program) (w : World) (p : TRow) : Int × Value := (hTx P w p.2, .ref p.1)
/-- the c-th state of a search -/
abbrev pr (m : Nat) (h : Int) (c : Nat) : SetTable.Probe := nth m (runAt m (SetTable.bits h % (m + 1)) (SetTable.bits h)) c
theorem pr_add (m : Nat) (h : Int) (c q : Nat) : nth m (pr m h c) q = pr m h (c + q) := (nth_add m c _ q).symm
theorem pr_dm (m : Nat) (h : Int) : ∀ c, (pr m h c).dummy = none
  | 0 => rfl
  | c + 1 => by
    have z := pr_dm m h c
    show (nth m _ (c + 1)).dummy = none
    rw [nth_succ]
    unfold adv
    split <;> exact z
section
variable {P : Program} {w : World} {A : Around} {E : Value → Shared → Prop} {s : Shared}
theorem tx_items {k : List Str} {vs : List Value} (h : ItemsAre (PySem.strKind P w) k vs) : ∀ v ∈ vs, ∃ x tk, v = Value.str x tk := by
  induction h with
  | nil => exact fun v hv => nomatch hv
  | cons h1 _ ih =>
    intro v hv
    rcases List.mem_cons.mp hv with rfl | hv
    · cases v with
      | str x tk => exact ⟨x, tk, rfl⟩
      | _ => cases h1
    · exact ih v hv
theorem tx_class {k : List Str} {b : Addr} {Q : Bool → Shared → Prop} (hk : IsTx P w s.heap k b) (h : Q false s) : wpAny (model P w) A (ofAClassStatement 8 (.ref b)) Q E s := by
  have ty := hk.typeIs
  obtain ⟨o, items, n, ho, _, hd, hi⟩ := hk
  have all := tx_items hi
  unfold ofAClassStatement
  refine wpAny_bind (wpAny_typeOf ty ?_)
  simp only [show (("tuple" : String) == "tuple") = true from rfl, if_true]
  try refine wpAny_bind (wpAny_pure ?_)
  try simp only [Bool.not_true, Bool.false_eq_true, if_false]
  refine wpAny_bind (wpAny_seqItems ho hd (wpAny_bind ?_))
  rw [← Array.forIn_toList]
  refine wpAny_forIn_list _ (fun rest r s' => (s' = s ∧ r.1 = none) ∧ ∀ v ∈ rest, ∃ x tk, v = Value.str x tk) _ (fun v rest r s' z => ?_) (fun r s' z => ?_) _ _ ⟨⟨rfl, rfl⟩, all⟩
  · obtain ⟨⟨rfl, _⟩, c⟩ := z
    obtain ⟨x, tk, rfl⟩ := c v List.mem_cons_self
    exact wpAny_bind (wpAny_pure (wpAny_pure ⟨⟨rfl, rfl⟩, fun u hu => c u (List.mem_cons_of_mem _ hu)⟩))
  · obtain ⟨⟨rfl, e⟩, _⟩ := z
    rcases r with ⟨r1, r2⟩
    cases e
    exact wpAny_pure h
theorem tx_byValue {k : List Str} {b : Addr} {Q : Bool → Shared → Prop} (hk : IsTx P w s.heap k b) (h : ∀ z, Q z s) : wpAny (model P w) A (hashByValue 8 (.ref b)) Q E s := by
  have ty := hk.typeIs
  obtain ⟨o, items, n, ho, _, hd, hi⟩ := hk
  have all := tx_items hi
  unfold hashByValue
  refine wpAny_bind (wpAny_specialOf ty F.slot_tuple_hash.lookup ?_)
  show wpAny _ _ (seqItems? (.ref b) >>= _) _ _ s
  refine wpAny_bind (wpAny_seqItems ho hd (wpAny_bind ?_))
  show wpAny _ _ (forIn items _ _) _ _ s
  rw [← Array.forIn_toList]
  cases hz : items.toList with
  | nil => exact wpAny_pure (wpAny_pure (h true))
  | cons v rest =>
    obtain ⟨x, tk, rfl⟩ := all v (by rw [hz]; exact List.mem_cons_self)
    rw [List.forIn_cons]
    refine wpAny_bind (wpAny_bind (wpAny_pure ?_))
    exact wpAny_pure (wpAny_pure (wpAny_pure (h false)))
/-- nothing is seen of a search -/
theorem tx_unseen {k : List Str} {b : Addr} {Q : Bool → Shared → Prop} (hk : IsTx P w s.heap k b) {ys : List Value} (hy : ∀ y ∈ ys, ∃ g c, y = Value.ref c ∧ IsTx P w s.heap g c) (h : Q false s) :
    wpAny (model P w) A (searchCouldBeSeen (.ref b) ys) Q E s := by
  unfold searchCouldBeSeen
  refine wpAny_bind (wpAny_forIn_list _ (fun rest r s' => (s' = s ∧ r.1 = none) ∧ ∀ y ∈ rest, ∃ g c, y = Value.ref c ∧ IsTx P w s.heap g c) _ (fun v rest r s' z => ?_) (fun r s' z => ?_) _ _ ⟨⟨rfl, rfl⟩, hy⟩)
  · obtain ⟨⟨rfl, _⟩, all⟩ := z
    obtain ⟨g, c, rfl, hc⟩ := all v List.mem_cons_self
    have tl : ∀ y ∈ rest, ∃ g c, y = Value.ref c ∧ IsTx P w s'.heap g c := fun u hu => all u (List.mem_cons_of_mem _ hu)
    dsimp only
    by_cases q : (b == c || (carriedByValue (.ref b) && carriedByValue (.ref c))) = true
    · exact wp_if_pos q (wpAny_pure ⟨⟨rfl, rfl⟩, tl⟩)
    · refine wp_if_neg q (wpAny_bind (wpAny_eqIsQuiet_tuple hk (wp_if_neg Bool.false_ne_true ?_)))
      refine wpAny_bind (wpAny_eqIsQuiet_tuple hc (wp_if_neg Bool.false_ne_true ?_))
      refine wpAny_bind (tx_class hk (wp_if_neg Bool.false_ne_true ?_))
      refine wpAny_bind (tx_class hc (wp_if_neg Bool.false_ne_true ?_))
      exact wpAny_pure ⟨⟨rfl, rfl⟩, tl⟩
  · obtain ⟨⟨rfl, e⟩, _⟩ := z
    rcases r with ⟨r1, r2⟩
    cases e
    exact wpAny_pure h
end
/-- the set at a, its rows in the order of their slots -/
structure TSet (P : Program) (w : World) (h : Heap) (a : Addr) (L : List TRow) (es : Array (Int × Value)) (ep : Nat) (t : SetTable) (ps : List (Int × Nat)) : Prop where
  ob : ∃ o, h.get? a = some o ∧ o.ExactSet ∧ o.data = .set es ep t
  rows : es.toList = L.map (rowV P w)
  tbl : Tbl t ps
  hash : ps.map (·.1) = L.map fun p => hTx P w p.2
  once : (L.map (·.2)).Nodup
  tup : ∀ p ∈ L, IsTx P w h p.2 p.1
  led : w.params.followText "set-order" = true ∨ t.led = true
  room : L.length * 5 < t.mask * 3
section
variable {P : Program} {w : World} {A : Around} {E : Value → Shared → Prop} {s : Shared} {a : Addr} {L : List TRow} {es : Array (Int × Value)} {ep : Nat} {t : SetTable} {ps : List (Int × Nat)}
theorem TSet.len {h : Heap} (R : TSet P w h a L es ep t ps) : ps.length = L.length ∧ es.size = L.length := by
  have z1 := congrArg List.length R.hash
  have z2 := congrArg List.length R.rows
  rw [List.length_map, List.length_map] at z1
  rw [List.length_map, Array.length_toList] at z2
  exact ⟨z1, z2⟩
theorem TSet.fits {h : Heap} (R : TSet P w h a L es ep t ps) : t.fits es.size = true := by
  have ⟨l1, l2⟩ := R.len
  have rm := R.room
  rw [l2, ← l1]
  exact R.tbl.fits (by omega)
theorem TSet.entry {h : Heap} (R : TSet P w h a L es ep t ps) {i : Nat} {p : TRow} (e : L[i]? = some p) : es[i]? = some (rowV P w p) := by
  rw [← Array.getElem?_toList, R.rows, List.getElem?_map, e]
  rfl
/-- what stands in the i-th slot -/
theorem TSet.row {h : Heap} (R : TSet P w h a L es ep t ps) {i j : Nat} (e : t.place.toList[i]? = some j) : ∃ p, L[i]? = some p := by
  rw [R.tbl.at_, List.getElem?_map, Option.map_eq_some_iff] at e
  obtain ⟨q, e, _⟩ := e
  have lt := (List.getElem?_eq_some_iff.mp e).1
  rw [R.len.1] at lt
  exact ⟨_, List.getElem?_eq_getElem lt⟩
theorem TSet.slot {h : Heap} (R : TSet P w h a L es ep t ps) {i : Nat} {p : TRow} (e : L[i]? = some p) : ∃ q, ps[i]? = some q ∧ q.1 = hTx P w p.2 ∧ t.place.toList[i]? = some q.2 := by
  have z := congrArg (fun l => l[i]?) R.hash
  rw [List.getElem?_map, List.getElem?_map, e] at z
  obtain ⟨q, e1, e2⟩ := Option.map_eq_some_iff.mp z
  refine ⟨q, e1, e2, ?_⟩
  rw [R.tbl.at_, List.getElem?_map, e1]
  rfl
theorem TSet.find (R : TSet P w s.heap a L es ep t ps) {x : Addr} {k : List Str} (hx : IsTx P w s.heap k x) (hu : A.units < cLine) {K : Nat} (hKf : K < 10 * SetTable.turns t.mask)
    (hK : way t.mask (hTx P w k) K ∉ ps.map (·.2)) (hKb : ∀ c, c < K → way t.mask (hTx P w k) c ∈ ps.map (·.2)) {Q : SetFound → Shared → Prop}
    (hin : k ∈ L.map (·.2) → Q (.there none) s) (hout : k ∉ L.map (·.2) → Q (.free (way t.mask (hTx P w k) K) false) s) :
    ∀ (f c : Nat) (st : Option SetTable.Probe), st.getD (t.probeStart (hTx P w k)) = pr t.mask (hTx P w k) c → c ≤ K → K - c < f →
      (∀ (d i : Nat) (p : TRow), d < c → t.place.toList[i]? = some (way t.mask (hTx P w k) d) → L[i]? = some p → p.2 ≠ k) →
      wpAny (model P w) A (setSearchFrom a (.ref x) (hTx P w k) true f st) Q E s
  | 0, _, _, _, _, lf, _ => nomatch lf
  | f + 1, c, st, est, lc, lf, past => by
    obtain ⟨o, ho, hex, hd⟩ := R.ob
    have state : ∀ {Z : Array (Int × Value) × Nat × SetTable → Shared → Prop}, Z (es, ep, t) s → wpAny (model P w) A (setState a) Z E s := fun z => wpAny_setState_of ho hd R.fits z
    have ris := R.tbl.ris
    have at_ : ∀ q, (nth t.mask (pr t.mask (hTx P w k) c) q).j = way t.mask (hTx P w k) (c + q) := fun q => congrArg SetTable.Probe.j (pr_add _ _ c q)
    have hs : ∀ (i : Nat) (p : TRow), L[i]? = some p → (es[i]?.map (·.1)).getD 0 = hTx P w p.2 := fun i p e => by rw [R.entry e]; rfl
    rw [setSearchFrom_succ]
    refine wpAny_bind (state (wp_if_neg ?_ ?_))
    · unfold SetTable.gaveWay
      rw [R.tbl.msk.odd]
      decide
    try refine wpAny_bind (wpAny_pure ?_)
    rcases go_spec t ris R.tbl.nodm (fun i => (es[i]?.map (·.1)).getD 0) (hTx P w k) (10 * SetTable.turns t.mask) (K - c) (pr t.mask (hTx P w k) c) (pr_dm _ _ c) (by omega)
      (fun q lq => by rw [at_, R.tbl.at_]; exact hKb _ (by omega)) (by rw [at_, R.tbl.at_, show c + (K - c) = K by omega]; exact hK) with ⟨q, i, lq, hi, hh, no, met⟩ | ⟨no, met⟩
    · -- one with this hash
      rw [at_] at hi
      have met2 : t.probe (fun i => (es[i]?.map (·.1)).getD 0) (hTx P w k) (st.getD (t.probeStart (hTx P w k))) = some (.candidate (way t.mask (hTx P w k) (c + q)) i (pr t.mask (hTx P w k) (c + (q + 1)))) := by
        rw [est, ← at_ q, ← pr_add]
        exact met
      rw [met2]
      obtain ⟨p, hp⟩ := R.row hi
      have mem : p ∈ L := List.mem_of_getElem? hp
      have live : t.slot (way t.mask (hTx P w k) (c + q)) = .live i := slot_live ris hi
      have on : wpAny (model P w) A (searchRest a (.ref x) (hTx P w k) true f es t (way t.mask (hTx P w k) (c + q)) i (pr t.mask (hTx P w k) (c + (q + 1)))) Q E s := by
        unfold searchRest
        rw [R.entry hp]
        refine wpAny_bind (wpAny_holding (wpAny_eqBool_tuple hu (R.tup p mem) hx (wpAny_bind (state ?_))))
        by_cases same : p.2 = k
        · exact wp_if_pos (by simp [same]) (wpAny_pure (hin (List.mem_map.mpr ⟨p, mem, same⟩)))
        · refine wp_if_neg (by simp [same]) ?_
          try refine wpAny_bind (wpAny_pure ?_)
          rw [sameMem]
          simp only [if_true, live, R.entry hp]
          refine wpAny_bind (wpAny_isSame_ref_self (wpAny_bind (wpAny_pure ?_)))
          simp only [if_true]
          refine wp_if_neg (by simp [same]) (TSet.find R hx hu hKf hK hKb hin hout f (c + (q + 1)) _ rfl (by omega) (by omega) fun d i2 p2 ld hi2 hp2 e2 => ?_)
          by_cases l1 : d < c
          · exact past d i2 p2 l1 hi2 hp2 e2
          · by_cases l2 : d = c + q
            · subst l2
              have z := slot_live ris hi2
              rw [live] at z
              cases z
              rw [hp] at hp2
              cases hp2
              exact same e2
            · exact no (d - c) i2 (by omega) (by rw [at_, show c + (d - c) = d by omega]; exact hi2) (by rw [hs i2 p2 hp2, e2])
      by_cases ld : t.led = true
      · refine wp_if_neg (by simp [ld]) ?_
        try refine wpAny_bind (wpAny_pure ?_)
        exact on
      · refine wp_if_pos (by simp [ld]) (wpAny_bind (tx_unseen hx (fun y hy => ?_) (wp_if_neg Bool.false_ne_true ?_)))
        · obtain ⟨e, he, rfl⟩ := List.mem_map.mp hy
          have he2 : e ∈ es.toList := by
            have z : e ∈ es ∧ e.1 = hTx P w k := by simpa using he
            simpa using z.1
          rw [R.rows] at he2
          obtain ⟨p2, hp2, rfl⟩ := List.mem_map.mp he2
          exact ⟨p2.2, p2.1, rfl, R.tup p2 hp2⟩
        · try refine wpAny_bind (wpAny_pure ?_)
          exact on
    · -- none
      have met2 : t.probe (fun i => (es[i]?.map (·.1)).getD 0) (hTx P w k) (st.getD (t.probeStart (hTx P w k))) = some (.empty (way t.mask (hTx P w k) K) none) := by
        rw [est]
        refine Eq.trans met ?_
        rw [at_, show c + (K - c) = K by omega]
      rw [met2]
      refine wpAny_pure (hout fun z => ?_)
      obtain ⟨p, hp, e⟩ := List.mem_map.mp z
      obtain ⟨i, li, ei⟩ := List.getElem_of_mem hp
      have hi : L[i]? = some p := by rw [List.getElem?_eq_getElem li, ei]
      obtain ⟨q, q1, q2, q3⟩ := R.slot hi
      rw [e] at q2
      obtain ⟨d, ld, ed⟩ := R.tbl.ahead (List.mem_of_getElem? q1) (K := K) (by rw [q2]; exact hK)
      rw [q2] at ed
      rw [← ed] at q3
      by_cases l1 : d < c
      · exact past d i p l1 q3 hi e
      · exact no (d - c) i (by omega) (by rw [at_, show c + (d - c) = d by omega]; exact q3) (by rw [hs i p hi, e])
end
end Cr
namespace Cr
open PySem PySem.Spec PyProof.Rows L2
theorem fm_get {α : Type} (d : α) (L : List α) : ∀ (o : List Nat), (∀ i ∈ o, i < L.length) → o.filterMap (fun i => L[i]?) = o.map fun i => L.getD i d
  | [], _ => rfl
  | i :: o, h => by
    have li := h i List.mem_cons_self
    rw [List.filterMap_cons_some (List.getElem?_eq_getElem li), fm_get d L o fun j hj => h j (List.mem_cons_of_mem _ hj), List.map_cons]
    congr 1
    rw [List.getD_eq_getElem?_getD, List.getElem?_eq_getElem li]
    rfl
theorem range_get {α : Type} (d : α) (L : List α) : (List.range L.length).map (fun i => L.getD i d) = L := by
  refine List.ext_getElem (by rw [List.length_map, List.length_range]) fun i h1 h2 => ?_
  rw [List.getElem_map, List.getElem_range, List.getD_eq_getElem?_getD, List.getElem?_eq_getElem h2]
  rfl
theorem getD_mapped {α β : Type} (f : α → β) (d : α) (e : β) (L : List α) {i : Nat} (h : i < L.length) : (L.map f).getD i e = f (L.getD i d) := by
  rw [List.getD_eq_getElem?_getD, List.getD_eq_getElem?_getD, List.getElem?_map, List.getElem?_eq_getElem h]
  rfl
section
variable {P : Program} {w : World} {A : Around} {E : Value → Shared → Prop} {s : Shared} {a : Addr} {L : List TRow} {es : Array (Int × Value)} {ep : Nat} {t : SetTable} {ps : List (Int × Nat)}
theorem tx_other {h h' : Heap} {k : List Str} {a b : Addr} {o : Obj} {es : Array (Int × Value)} {ep : Nat} {t : SetTable} (hb : IsTx P w h k b) (ho : h.get? a = some o) (hd : o.data = .set es ep t) (sb : Heap.SameBut a h h') : IsTx P w h' k b := by
  obtain ⟨u, items, n, hu, hc, hud, hi⟩ := hb
  refine ⟨u, items, n, (sb.2 b fun e => ?_).trans hu, hc, hud, hi⟩
  rw [e, ho] at hu
  cases hu
  rw [hd] at hud
  cases hud
/-- the set, where its table may be full -/
structure TFull (P : Program) (w : World) (h : Heap) (a : Addr) (L : List TRow) (es : Array (Int × Value)) (ep : Nat) (t : SetTable) (ps : List (Int × Nat)) : Prop where
  ob : ∃ o, h.get? a = some o ∧ o.ExactSet ∧ o.data = .set es ep t
  rows : es.toList = L.map (rowV P w)
  tbl : Tbl t ps
  hash : ps.map (·.1) = L.map fun p => hTx P w p.2
  once : (L.map (·.2)).Nodup
  tup : ∀ p ∈ L, IsTx P w h p.2 p.1
  led : w.params.followText "set-order" = true ∨ t.led = true
  room : L.length ≤ t.mask
theorem TFull.len {h : Heap} (R : TFull P w h a L es ep t ps) : ps.length = L.length ∧ es.size = L.length := by
  have z1 := congrArg List.length R.hash
  have z2 := congrArg List.length R.rows
  rw [List.length_map, List.length_map] at z1
  rw [List.length_map, Array.length_toList] at z2
  exact ⟨z1, z2⟩
theorem TFull.relay (R : TFull P w s.heap a L es ep t ps) {wanted M : Nat} (hw : SetTable.sizeAbove wanted - 1 = M) (hM : Msk M) (hn : L.length * 5 < M * 3) {Q : Unit → Shared → Prop}
    (hQ : ∀ h' L' es' ep' t' ps', Heap.SameBut a s.heap h' → TSet P w h' a L' es' ep' t' ps' → L'.Perm L → Q () { s with heap := h' }) : wpAny (model P w) A (setRelay a wanted) Q E s := by
  obtain ⟨o, ho, hex, hd⟩ := R.ob
  obtain ⟨l1, l2⟩ := R.len
  have lm := hM.le
  have fit : t.fits es.size = true := by
    rw [l2, ← l1]
    exact R.tbl.fits (by have := R.room; omega)
  obtain ⟨t', js, er, pm, T, em, el⟩ := lay_anew t (hs := es.map (·.1)) hw hM (by rw [Array.size_map]; omega)
  rw [Array.size_map, l2] at pm
  have low : ∀ i ∈ js.map (·.2), i < L.length := fun i hi => List.mem_range.mp (pm.mem_iff.mp hi)
  generalize hL : (js.map (·.2)).map (fun i => L.getD i ((0, []) : TRow)) = L'
  have pL : L'.Perm L := by
    have z := pm.map fun i => L.getD i ((0, []) : TRow)
    rwa [range_get, hL] at z
  have new : ((js.map (·.2)).toArray.filterMap (es[·]?)).toList = L'.map (rowV P w) := by
    rw [Array.toList_filterMap]
    show (js.map (·.2)).filterMap (fun i => es[i]?) = _
    rw [show (fun i => es[i]?) = fun i => es.toList[i]? from funext fun i => Array.getElem?_toList.symm, fm_get (rowV P w (0, [])) es.toList _ (fun i hi => by rw [Array.length_toList, l2]; exact low i hi), ← hL]
    refine Eq.trans (List.map_congr_left fun i hi => ?_) (List.map_map ..).symm
    rw [R.rows]
    exact getD_mapped (rowV P w) (0, []) _ L (low i hi)
  have size : ((js.map (·.2)).toArray.filterMap (es[·]?)).size = es.size := by
    rw [← Array.length_toList, new, List.length_map, pL.length_eq, l2]
  have keys : (js.map fun q => ((es.map (·.1)).toList.getD q.2 0, q.1)).map (·.1) = L'.map fun p => hTx P w p.2 := by
    rw [← hL, List.map_map, List.map_map, List.map_map]
    refine List.map_congr_left fun q hq => ?_
    have li := low q.2 (List.mem_map_of_mem hq)
    show (es.map (·.1)).toList.getD q.2 0 = hTx P w (L.getD q.2 (0, [])).2
    rw [Array.toList_map, R.rows, List.map_map]
    exact getD_mapped (fun p => (rowV P w p).1) (0, []) 0 L li
  rw [setRelay_eq]
  refine wpAny_bind (wpAny_setState_of ho hd fit (wp_if_neg (by rw [sizeLine_eq]; omega) ?_))
  try refine wpAny_bind (wpAny_pure ?_)
  rw [er]
  refine wpAny_bind (wp_if_neg (by rw [size]; simp) ?_)
  try refine wpAny_bind (wpAny_pure ?_)
  refine wpAny_pure (wpAny_storeSet_of ho hd ?_ (by rw [size, l2, sizeLine_eq]; omega))
  have sb := Heap.SameBut.update s.heap a (Obj.putSet ((js.map (·.2)).toArray.filterMap (es[·]?)) t')
  refine hQ _ L' _ (ep + 1) t' _ sb ⟨⟨_, store_at ho hd, hex, rfl⟩, new, T, keys, (pL.map (·.2)).nodup_iff.mpr R.once, fun p hp => tx_other (R.tup p (pL.mem_iff.mp hp)) ho hd sb, el.symm ▸ R.led, by rw [pL.length_eq, em]; exact hn⟩ pL
/-- one is added -/
theorem TSet.add (R : TSet P w s.heap a L es ep t ps) {x : Addr} {k : List Str} (hx : IsTx P w s.heap k x) (hu : A.units < cLine) (few : L.length < 300) {Q : Bool → Shared → Prop}
    (hQ : ∀ b h' L' es' ep' t' ps', Heap.SameBut a s.heap h' → TSet P w h' a L' es' ep' t' ps' → ((k ∈ L.map (·.2) ∧ L' = L) ∨ L'.Perm ((x, k) :: L)) → Q b { s with heap := h' }) :
    wpAny (model P w) A (setAddHashed a (.ref x) (hTx P w k)) Q E s := by
  obtain ⟨o, ho, hex, hd⟩ := R.ob
  obtain ⟨l1, l2⟩ := R.len
  have rm := R.room
  have lm := R.tbl.msk.le
  obtain ⟨K, lK, hK, hb⟩ := R.tbl.free (by omega) (hTx P w k)
  unfold setAddHashed
  rw [setAddHashedIn_succ a (.ref x) (hTx P w k) 99999]
  refine wpAny_holding (wpAny_bind (wpAny_setState_of ho hd R.fits (wp_if_neg (by simp [byScan, Value.scannable]) ?_)))
  try refine wpAny_bind (wpAny_pure ?_)
  unfold setSearch
  have lim : 10 * SetTable.turns t.mask < 100000 := by
    unfold SetTable.turns
    omega
  refine wpAny_bind (R.find hx hu lK hK hb (fun hm => ?_) (fun hm => ?_) 100000 0 none rfl (Nat.zero_le K) (by omega) fun d i p z => absurd z (Nat.not_lt_zero d))
  · exact wpAny_pure (hQ false s.heap L es ep t ps (Heap.SameBut.refl a s.heap) R (.inl ⟨hm, rfl⟩))
  · refine wpAny_bind (wpAny_setState_of ho hd R.fits ?_)
    obtain ⟨q1, q2, q3, q4⟩ := R.tbl.more hK hb
    dsimp only
    generalize t.put (way t.mask (hTx P w k) K) = Z at q1 q2 q3 q4 ⊢
    obtain ⟨t1, b⟩ := Z
    dsimp only at q1 q2 q3 q4 ⊢
    subst q1
    generalize SetTable.below t.place (way t.mask (hTx P w k) K) = b at q2 ⊢
    have pm := ins_perm L b ((x, k) : TRow)
    have rows1 : (SetTable.insertAt es b (hTx P w k, Value.ref x)).toList = (ins L b (x, k)).map (rowV P w) := by
      rw [SetTable.toList_insertAt, map_ins, R.rows]
      rfl
    have hash1 : (ins ps b (hTx P w k, way t.mask (hTx P w k) K)).map (·.1) = (ins L b ((x, k) : TRow)).map fun p => hTx P w p.2 := by
      rw [map_ins, map_ins, R.hash]
    have once1 : ((ins L b ((x, k) : TRow)).map (·.2)).Nodup := (pm.map (·.2)).nodup_iff.mpr (List.nodup_cons.mpr ⟨hm, R.once⟩)
    have len1 : (ins L b ((x, k) : TRow)).length = L.length + 1 := pm.length_eq
    generalize ins L b ((x, k) : TRow) = L1 at pm rows1 hash1 once1 len1
    generalize ins ps b (hTx P w k, way t.mask (hTx P w k) K) = ps1 at q2 hash1
    generalize SetTable.insertAt es b (hTx P w k, Value.ref x) = es1 at rows1
    have size1 : es1.size = L.length + 1 := by
      rw [← Array.length_toList, rows1, List.length_map, len1]
    have go : ∀ t2 : SetTable, Tbl t2 ps1 → t2.mask = t.mask → t2.led = t.led → wpAny (model P w) A (do
        storeSet a es1 t2
        if !false && t2.tooFull then setRelay a (SetTable.grown (es.size + 1))
        return true) Q E s := fun t2 T2 m2 e2 => by
      have sb := Heap.SameBut.update s.heap a (Obj.putSet es1 t2)
      have ob := store_at (es' := es1) (t' := t2) ho hd
      refine wpAny_bind (wpAny_storeSet_of ho hd ?_ (by rw [size1, sizeLine_eq]; omega))
      generalize s.heap.update a (Obj.putSet es1 t2) = h1 at sb ob ⊢
      have tup1 : ∀ p ∈ L1, IsTx P w h1 p.2 p.1 := fun p hp => by
        rcases List.mem_cons.mp (pm.mem_iff.mp hp) with rfl | hp
        · exact tx_other hx ho hd sb
        · exact tx_other (R.tup p hp) ho hd sb
      have full : t2.tooFull = decide ((L.length + 1) * 5 ≥ t.mask * 3) := by
        unfold SetTable.tooFull SetTable.fill
        rw [T2.nodm, T2.size, m2]
        have z := congrArg List.length hash1
        rw [List.length_map, List.length_map, len1] at z
        rw [z]
        rfl
      by_cases c : (L.length + 1) * 5 ≥ t.mask * 3
      · have R1 : TFull P w h1 a L1 es1 (ep + 1) t2 ps1 := ⟨⟨_, ob, hex, rfl⟩, rows1, T2, hash1, once1, tup1, e2.symm ▸ R.led, by rw [len1, m2]; rcases R.tbl.msk with e | e | e | e <;> rw [e] at rm ⊢ <;> omega⟩
        have grow : ∀ M, SetTable.sizeAbove (SetTable.grown (es.size + 1)) - 1 = M → Msk M → (L.length + 1) * 5 < M * 3 → wpAny (model P w) A (setRelay a (SetTable.grown (es.size + 1))) (fun _ s' => wpAny (model P w) A (pure true) Q E s') E { s with heap := h1 } := fun M g1 g2 g3 =>
          TFull.relay (s := { s with heap := h1 }) R1 g1 g2 (by rw [len1]; exact g3) fun h2 L2 es2 ep2 t3 ps2 sb2 R2 pm2 => wpAny_pure (hQ true h2 L2 es2 ep2 t3 ps2 (sb.trans sb2) R2 (.inr (pm2.trans pm)))
        have step : wpAny (model P w) A (setRelay a (SetTable.grown (es.size + 1))) (fun _ s' => wpAny (model P w) A (pure true) Q E s') E { s with heap := h1 } := by
          rcases R.tbl.msk with e | e | e | e
          · rw [e] at c rm
            have l4 : es.size + 1 = 5 := by omega
            exact grow 31 (by rw [l4]; exact grown5) (.inr (.inl rfl)) (by omega)
          · rw [e] at c rm
            have l4 : es.size + 1 = 19 := by omega
            exact grow 127 (by rw [l4]; exact grown19) (.inr (.inr (.inl rfl))) (by omega)
          · rw [e] at c rm
            have l4 : es.size + 1 = 77 := by omega
            exact grow 511 (by rw [l4]; exact grown77) (.inr (.inr (.inr rfl))) (by omega)
          · rw [e] at c
            omega
        have on : (!false && t2.tooFull) = true := by rw [full, decide_eq_true c]; rfl
        first
          | exact wp_if_pos on (wpAny_bind step)
          | exact wpAny_bind (wp_if_pos on step)
      · have on : ¬ (!false && t2.tooFull) = true := by rw [full, decide_eq_false c]; decide
        have end_ : wpAny (model P w) A (pure true) Q E { s with heap := h1 } := wpAny_pure (hQ true h1 L1 es1 (ep + 1) t2 ps1 sb ⟨⟨_, ob, hex, rfl⟩, rows1, T2, hash1, once1, tup1, e2.symm ▸ R.led, by rw [len1, m2]; omega⟩ (.inr pm))
        first
          | exact wp_if_neg on end_
          | exact wpAny_bind (wp_if_neg on (wpAny_pure end_))
    have both : ∀ z : Bool, wpAny (model P w) A (do
        let t2 : SetTable := if z then t1 else { t1 with plain := false }
        storeSet a es1 t2
        if !false && t2.tooFull then setRelay a (SetTable.grown (es.size + 1))
        return true) Q E s := fun z => by
      cases z
      · exact go { t1 with plain := false } ⟨q2.at_, q2.up, q2.nodm, q2.msk, q2.low, q2.goes⟩ q3 q4
      · exact go t1 q2 q3 q4
    by_cases pl : t1.plain = true
    · first
        | exact wp_if_pos pl (wpAny_bind (tx_byValue hx both))
        | exact wpAny_bind (wp_if_pos pl (tx_byValue hx both))
    · first
        | exact wp_if_neg pl (wpAny_bind (wpAny_pure (both true)))
        | exact wpAny_bind (wp_if_neg pl (wpAny_pure (both true)))
        | exact wp_if_neg pl (both true)
end
end Cr
/-! set(xs) of a list of tuples of texts -/
namespace Cr
open PySem PySem.Spec PyProof.Rows L2
/-- what the first i items gave -/
structure Gath (ks : List TRow) (i : Nat) (L : List TRow) : Prop where
  of : ∀ p ∈ L, p ∈ ks.take i
  has : ∀ p ∈ ks.take i, p.2 ∈ L.map (·.2)
  few : L.length ≤ i
theorem Gath.step {ks L L' : List TRow} {i : Nat} {q : TRow} (g : Gath ks i L) (e : ks[i]? = some q) (h : (q.2 ∈ L.map (·.2) ∧ L' = L) ∨ L'.Perm (q :: L)) : Gath ks (i + 1) L' := by
  have nx : ks.take (i + 1) = ks.take i ++ [q] := by rw [List.take_add_one, e]; rfl
  rcases h with ⟨m, rfl⟩ | pm
  · refine ⟨fun p hp => ?_, fun p hp => ?_, Nat.le_succ_of_le g.few⟩
    · rw [nx]
      exact List.mem_append_left _ (g.of p hp)
    · rw [nx, List.mem_append, List.mem_singleton] at hp
      rcases hp with hp | rfl
      · exact g.has p hp
      · exact m
  · refine ⟨fun p hp => ?_, fun p hp => ?_, by rw [pm.length_eq]; exact Nat.succ_le_succ g.few⟩
    · rw [nx, List.mem_append, List.mem_singleton]
      rcases List.mem_cons.mp (pm.mem_iff.mp hp) with rfl | hp
      · exact .inr rfl
      · exact .inl (g.of p hp)
    · rw [(pm.map (·.2)).mem_iff, List.map_cons, List.mem_cons]
      rw [nx, List.mem_append, List.mem_singleton] at hp
      rcases hp with hp | rfl
      · exact .inr (g.has p hp)
      · exact .inl rfl
abbrev freshT (w : World) : SetTable := .fresh 0 0 (!w.params.followText "set-order")
abbrev freshO (w : World) : Obj := { cls := .type "set", dict := none, data := .set #[] 0 (freshT w) }
section
variable {P : Program} {w : World} {A : Around} {E : Value → Shared → Prop} {s : Shared}
theorem tx_kept {h h' : Heap} {k : List Str} {b : Addr} (z : IsTx P w h k b) (kp : ∀ c o, h.get? c = some o → h'.get? c = some o) : IsTx P w h' k b := by
  obtain ⟨o, items, n, ho, r⟩ := z
  exact ⟨o, items, n, kp b o ho, r⟩
theorem TSet.none {h : Heap} {a : Addr} (ho : h.get? a = some (freshO w)) : TSet P w h a [] #[] 0 (freshT w) [] where
  ob := ⟨_, ho, ⟨rfl, rfl, rfl⟩, rfl⟩
  rows := rfl
  tbl := ⟨rfl, .nil, rfl, .inl rfl, (fun _ z => nomatch z), (fun _ z => nomatch z)⟩
  hash := rfl
  once := .nil
  tup := fun _ z => nomatch z
  led := by
    cases z : w.params.followText "set-order"
    · refine .inr ?_
      show (!w.params.followText "set-order") = true
      rw [z]
      rfl
    · exact .inl rfl
  room := by
    show 0 * 5 < 7 * 3
    decide
theorem tx_loop {I : Addr} {fp wr : List Addr} {G : Array GenState → Array GenState → Prop} {n : Nat} {Pv : Nat → Value → Prop} {St : Nat → Shared → Prop} {R : Result → Shared → Prop}
    (W : WalksS P w A.in1 I fp wr G n Pv St) {S : Addr} (outS : S ∉ fp) {ks : List TRow} (en : n = ks.length) (few : ks.length < 300) (val : ∀ i v, Pv i v → ∃ p, ks[i]? = some p ∧ v = .ref p.1)
    {h0 : Heap} (tk : ∀ p ∈ ks, IsTx P w h0 p.2 p.1) (newS : h0.get? S = none) (newW : ∀ b ∈ wr, h0.get? b = none) (hu : A.in1.units < cLine)
    (hR : ∀ s' L es ep t ps, s'.gens = s.gens ∧ s'.drawn = s.drawn ∧ s'.os = s.os → TSet P w s'.heap S L es ep t ps → Gath ks n L → (∀ b o, h0.get? b = some o → s'.heap.get? b = some o) → R (.ok (.ret .none)) s')
    (gq : ∀ {x y : Array GenState}, G x y → y = x) :
    ∀ (k i : Nat) (s1 : Shared), i + k = n → St i s1 → (s1.gens = s.gens ∧ s1.drawn = s.drawn ∧ s1.os = s.os) → (∀ b o, h0.get? b = some o → s1.heap.get? b = some o) → (∃ L es ep t ps, TSet P w s1.heap S L es ep t ps ∧ Gath ks i L) →
      codeAny (model P w) A (.builtin "set.update.loop" ⟨[.ref S, .ref I], []⟩) R s1
  | 0, i, s1, ei, st, sm, kp, ⟨L, es, ep, t, ps, T, g⟩ => by
    refine codeAny_builtin F.entry_set_update_loop ?_
    rw [Around.under_plainId F.plain_set_update_loop _]
    have ein : i = n := ei
    subst ein
    show wpAny _ A.in1 (pyNext (.ref I) >>= _) _ _ s1
    refine wpAny_bind (W.done s1 _ _ st fun s2 mv => ?_)
    have kp2 : ∀ b o, h0.get? b = some o → s2.heap.get? b = some o := fun b o e => mv.heap b o (fun z => by rw [newW b z] at e; cases e) (kp b o e)
    obtain ⟨o, ho, r⟩ := T.ob
    refine wpAny_pure (hR s2 L es ep t ps ⟨(gq mv.gens).trans sm.1, mv.drawn.trans sm.2.1, mv.os.trans sm.2.2⟩ ⟨⟨o, mv.heap S o (fun z => outS (W.sub _ z)) ho, r⟩, T.rows, T.tbl, T.hash, T.once, fun p hp => tx_kept (tk p (List.mem_of_mem_take (g.of p hp))) kp2, T.led, T.room⟩ g kp2)
  | k + 1, i, s1, ei, st, sm, kp, ⟨L, es, ep, t, ps, T, g⟩ => by
    refine codeAny_builtin F.entry_set_update_loop ?_
    rw [Around.under_plainId F.plain_set_update_loop _]
    show wpAny _ A.in1 (pyNext (.ref I) >>= _) _ _ s1
    refine wpAny_bind (W.item i s1 _ _ (by omega) st fun v s2 hv st2 mv => ?_)
    obtain ⟨q, hq, rfl⟩ := val i v hv
    have kp2 : ∀ b o, h0.get? b = some o → s2.heap.get? b = some o := fun b o e => mv.heap b o (fun z => by rw [newW b z] at e; cases e) (kp b o e)
    obtain ⟨o, ho, r⟩ := T.ob
    have T2 : TSet P w s2.heap S L es ep t ps := ⟨⟨o, mv.heap S o (fun z => outS (W.sub _ z)) ho, r⟩, T.rows, T.tbl, T.hash, T.once, fun p hp => tx_kept (tk p (List.mem_of_mem_take (g.of p hp))) kp2, T.led, T.room⟩
    have xq : IsTx P w s2.heap q.2 q.1 := tx_kept (tk q (List.mem_of_getElem? hq)) kp2
    show wpAny _ A.in1 (holding [Value.ref q.1] (setAdd S (.ref q.1)) >>= _) _ _ s2
    unfold setAdd
    refine wpAny_bind (wpAny_holding (wpAny_holding (wpAny_bind (wpAny_pyHash_tuple hu xq ?_))))
    refine TSet.add (s := { s2 with toks := s2.toks + (q.2.length + 1) }) T2 xq hu (by have := g.few; omega) fun b h3 L3 es3 ep3 t3 ps3 sb T3 ch => ?_
    refine wpAny_pure ⟨plainId_quiet F.plain_set_update_loop _, tx_loop W outS en few val tk newS newW hu hR gq k (i + 1) _ (by omega) (W.frame _ s2 _ _ st2 (Nat.le_add_right _ _) fun b hb o e => ?_) ⟨(gq mv.gens).trans sm.1, mv.drawn.trans sm.2.1, mv.os.trans sm.2.2⟩ (fun b o e => ?_) ⟨L3, es3, ep3, t3, ps3, T3, g.step hq ch⟩⟩
    · exact (sb.2 b fun z : b = S => outS (z ▸ hb)).trans e
    · exact (sb.2 b fun z : b = S => by rw [z, newS] at e; cases e).trans (kp2 b o e)
end
end Cr
namespace Cr
open PySem PySem.Spec PyProof.Rows L2
section
variable {P : Program} {w : World} {A : Around} {E : Value → Shared → Prop} {s : Shared}
abbrev iterO (l : Addr) : Obj := { cls := .type "list_iterator", data := .fields #[.ref l, .int 0 0] }
/-- set(xs): a new set, an iterator, and the loop over it -/
theorem set_from {l : Addr} {items : Array Value} {Z : Shared → Prop} {Q : Value → Shared → Prop} (hl : s.heap.IsList l items)
    (loop : codeAny (model P w) A.in1.in1 (.builtin "set.update.loop" ⟨[.ref s.heap.objs.size, .ref (s.heap.push (freshO w)).objs.size], []⟩) (fun r s' => r = .ok (.ret .none) ∧ Z s') { s with heap := (s.heap.push (freshO w)).push (iterO l) })
    (h : ∀ s', Z s' → Q (.ref s.heap.objs.size) s') : wpAny (model P w) A (call (.type "set") [.ref l]) Q E s := by
  have cs := F.called_set
  obtain ⟨c, tl, mro⟩ := cs.mro
  have made := cs.made
  have sub := cs.sub
  have notT := cs.notType
  have canC := cs.canCreate
  have tc := F.typeCall_set_1 (.ref l)
  refine wpAny_call (codeAny_of_tree ?_)
  show wpAny _ _ (callAny (.type "set") _) _ _ _
  refine wpAny_pure ⟨Code.quiet_builtin _ (by decide +kernel), codeAny_builtin F.entry_type_call ?_⟩
  rw [Around.under_plain (weight_type_call_type "set" [.ref l] []) rfl]
  repeat any_goals first | assumption | wp_step
  refine codeAny_mono (code_set_led1 (.ref l) (E := E) (Q₁ := fun u s1 => u = .ref s.heap.objs.size ∧ s1 = { s with heap := s.heap.push (freshO w) }) ⟨rfl, rfl⟩) fun r s1 hr => ?_
  rcases r with e | fl
  case error => exact hr
  cases fl
  case ret u =>
    obtain ⟨rfl, rfl⟩ := hr
    have at1 : (s.heap.push (freshO w)).get? s.heap.objs.size = some (freshO w) := Heap.get?_push_size _ rfl
    have ty : Shared.TypeIs { s with heap := s.heap.push (freshO w) } (.ref s.heap.objs.size) "set" := ⟨_, at1, rfl⟩
    have lk := F.called_set.init.lookup
    have bd := F.called_set.init.bind (.ref s.heap.objs.size)
    repeat any_goals first | assumption | wp_step
    refine codeAny_mono (codeAny_call_builtin (R := wants (fun r s2 => r = .none ∧ Z s2) E) F.called_set.init.plain F.entry_set_init (check_set_init_1 ty ?_)) fun r s2 hr => ?_
    · obtain ⟨⟨ocls, odict, odata, oslots⟩, hol, rfl, nl, rfl⟩ := hl
      have hol1 : (s.heap.push (freshO w)).get? l = some { cls := .type "list", dict := odict, data := .seq items nl, slots := oslots } := Heap.get?_push_of_some _ hol
      have n1 := F.sub_list_set
      have n2 := F.sub_list_frozenset
      have n3 : (Value.type "list" == Value.type "dict") = false := by decide
      have hl1 : (s.heap.push (freshO w)).IsList l items := ⟨_, hol1, rfl, nl, rfl⟩
      unfold Builtin.«set.__init__» noKeywords Builtin.Frozenset.updateFrom
      generalize hPI : pyIter = PI
      wp_walk
      subst hPI
      refine wpAny_pyIter_list hl1 (wpAny_bind (wpAny_runValue (codeAny_mono loop fun r s2 hr => ?_)))
      obtain ⟨rfl, z⟩ := hr
      show wpAny _ _ _ _ _ _
      refine wpAny_pure ?_
      show wpAny _ _ (ret Value.none) _ _ _
      exact wpAny_pure ⟨rfl, z⟩
    · rcases r with e | fl
      case error => exact hr
      cases fl
      case ret u =>
        obtain ⟨rfl, z⟩ := hr
        repeat any_goals first | assumption | wp_step
        exact h _ z
      all_goals exact hr.elim
  all_goals exact hr.elim
theorem none_above {h : Heap} {b : Addr} (lb : h.objs.size ≤ b) : h.get? b = none := by
  cases z : h.get? b with
  | none => rfl
  | some o => exact absurd (Heap.lt_size z) (Nat.not_lt.mpr lb)
/-- set(xs) of tuples of texts -/
theorem tx_set {l : Addr} {items : Array Value} {ks : List TRow} {Q : Value → Shared → Prop} (hh : A.handled = none) (hl : s.heap.IsList l items) (hi : items.toList = ks.map fun p => Value.ref p.1)
    (tk : ∀ p ∈ ks, IsTx P w s.heap p.2 p.1) (few : ks.length < 300) (hu : A.units + 3 < cLine)
    (h : ∀ h' n L es ep t ps, TSet P w h' s.heap.objs.size L es ep t ps → Gath ks ks.length L → (∀ b o, s.heap.get? b = some o → h'.get? b = some o) → Q (.ref s.heap.objs.size) { s with heap := h', toks := n }) :
    wpAny (model P w) A (call (.type "set") [.ref l]) Q E s := by
  have sz : items.size = ks.length := by
    rw [← Array.length_toList, hi, List.length_map]
  have lS : l < s.heap.objs.size := by
    obtain ⟨o, ho, _⟩ := hl
    exact Heap.lt_size ho
  have ps1 : (s.heap.push (freshO w)).objs.size = s.heap.objs.size + 1 := Heap.size_push ..
  have at1 : (s.heap.push (freshO w)).get? s.heap.objs.size = some (freshO w) := Heap.get?_push_size _ rfl
  have hl1 : (s.heap.push (freshO w)).IsList l items := hl.push _
  refine set_from (Z := fun s' => ∃ h' n L es ep t ps, s' = { s with heap := h', toks := n } ∧ TSet P w h' s.heap.objs.size L es ep t ps ∧ Gath ks ks.length L ∧ ∀ b o, s.heap.get? b = some o → h'.get? b = some o) hl ?_ fun s' z => ?_
  · have W := (Walks.list (prog := P) (w := w) (A := A.in1.in1.in1) (by simp [hh]) (s.heap.push (freshO w)).objs.size l (by rw [ps1]; exact Nat.ne_of_lt (Nat.lt_succ_of_lt lS)) items).toS
    refine tx_loop (s := s) W (S := s.heap.objs.size) (ks := ks) (h0 := s.heap) (by rw [ps1, List.mem_cons, List.mem_singleton, not_or]; exact ⟨Nat.ne_of_lt (Nat.lt_succ_self _), Nat.ne_of_gt lS⟩) sz few (fun i v hv => ?_) tk (none_above (Nat.le_refl _)) (fun b hb => ?_) ?_ (fun s' L es ep t ps sm T g kp => ⟨rfl, s'.heap, s'.toks, L, es, ep, t, ps, ?_, T, sz ▸ g, kp⟩) (fun e => e) items.size 0 _ (Nat.zero_add _) ⟨⟨_, Heap.get?_push_size _ rfl, rfl, rfl⟩, hl1.push _⟩ ⟨rfl, rfl, rfl⟩ (fun b o e => Heap.get?_push_of_some _ (Heap.get?_push_of_some _ e)) ⟨[], #[], 0, _, [], TSet.none (Heap.get?_push_of_some _ at1), ⟨(fun _ z => nomatch z), (fun _ z => by simp at z), Nat.le_refl _⟩⟩
    · have z : items.toList[i]? = some v := by rw [Array.getElem?_toList]; exact hv
      rw [hi, List.getElem?_map] at z
      obtain ⟨p, e1, e2⟩ := Option.map_eq_some_iff.mp z
      exact ⟨p, e1, e2.symm⟩
    · rw [List.mem_singleton.mp hb, ps1]
      exact none_above (Nat.le_succ _)
    · show A.in1.in1.in1.units < cLine
      simp only [Around.in1]
      omega
    · obtain ⟨h2, g2, d2, n2, o2⟩ := s'
      obtain ⟨e1, e2, e3⟩ := sm
      cases e1
      cases e2
      cases e3
      rfl
  · obtain ⟨h', n, L, es, ep, t, ps, rfl, T, g, kp⟩ := z
    exact h h' n L es ep t ps T g kp
end
end Cr
/-! sorted(set(pairs of texts)) -/
namespace Cr
open PySem PySem.Spec PyProof.Rows L2 Evl
theorem perm_mapped {α β : Type} (f : α → β) : ∀ {vs : List β} {L : List α}, vs.Perm (L.map f) → ∃ M : List α, M.Perm L ∧ vs = M.map f
  | [], L, h => by
    have z := h.length_eq
    rw [List.length_map] at z
    exact ⟨[], by rw [List.eq_nil_of_length_eq_zero z.symm], rfl⟩
  | v :: vs, L, h => by
    obtain ⟨q, hq, rfl⟩ := List.mem_map.mp (h.mem_iff.mp List.mem_cons_self)
    obtain ⟨A, B, rfl⟩ := List.append_of_mem hq
    have z : ((A ++ q :: B).map f).Perm (f q :: (A ++ B).map f) := (List.perm_middle (l₁ := A) (l₂ := B) (a := q)).map f
    obtain ⟨M, pM, rfl⟩ := perm_mapped f (List.Perm.cons_inv (h.trans z))
    exact ⟨q :: M, (pM.cons q).trans List.perm_middle.symm, rfl⟩
abbrev PRow := Addr × Pr
def rowT (q : PRow) : TRow := (q.1, [q.2.1, q.2.2])
theorem rowT_inj {p q : PRow} (h : (rowT p).2 = (rowT q).2) : p.2 = q.2 := by
  have e : [p.2.1, p.2.2] = [q.2.1, q.2.2] := h
  injection e with e1 e2
  injection e2 with e2 _
  exact Prod.ext e1 e2
theorem rowT_list : ∀ {L : List TRow} {ks : List PRow}, (∀ p ∈ L, p ∈ ks.map rowT) → ∃ M : List PRow, L = M.map rowT ∧ ∀ q ∈ M, q ∈ ks
  | [], _, _ => ⟨[], rfl, fun _ z => nomatch z⟩
  | p :: L, ks, h => by
    obtain ⟨q, hq, rfl⟩ := List.mem_map.mp (h p List.mem_cons_self)
    obtain ⟨M, rfl, hM⟩ := rowT_list (L := L) fun x hx => h x (List.mem_cons_of_mem _ hx)
    exact ⟨q :: M, rfl, fun x hx => by
      rcases List.mem_cons.mp hx with rfl | hx
      · exact hq
      · exact hM x hx⟩
theorem each_of_list {β : Type} {R : Value → β → Prop} (f : β → Value) : ∀ (M : List β), (∀ q ∈ M, R (f q) q) → PySem.W.EachIs R (M.map f) M
  | [], _ => .nil
  | q :: M, h => .cons (h q List.mem_cons_self) (each_of_list f M fun x hx => h x (List.mem_cons_of_mem _ hx))
theorem list_of_each {β : Type} (f : β → Value) : ∀ {out : List Value} {M : List β}, PySem.W.EachIs (fun v q => v = f q) out M → out = M.map f
  | _, _, .nil => rfl
  | _, _, .cons h t => by rw [h, list_of_each f t]; rfl
section
variable {P : Program} {w : World} {A : Around} {E : Value → Shared → Prop} {s : Shared} {a : Addr} {M : List PRow} {es : Array (Int × Value)} {ep : Nat} {t : SetTable} {ps : List (Int × Nat)}
theorem reads_pair {h : Heap} {q : PRow} (z : IsTx P w h (rowT q).2 q.1) : Reads h (.ref q.1) (pD q.2) [] := by
  obtain ⟨o, items, n, ho, hc, hd, hi⟩ := z
  have two : ∀ {vs : List Value}, ItemsAre (PySem.strKind P w) [q.2.1, q.2.2] vs → ReadsAll h vs [.str q.2.1, .str q.2.2] [] := fun {vs} hv => by
    have one : ∀ {k : Str} {v : Value}, (PySem.strKind P w).is k v = true → Reads h v (.str k) [] := fun {k v} e => by
      cases v with
      | str x tk =>
        have ex : x = k := by simpa [PySem.strKind, Value.isStrOf] using e
        subst ex
        exact .str x tk
      | _ => cases e
    cases hv with
    | cons h1 r =>
      cases r with
      | cons h2 r2 =>
        cases r2
        exact ReadsAll.cons (as := []) (bs := []) (one h1) (ReadsAll.cons (as := []) (bs := []) (one h2) .nil)
  exact .tuple ho hc hd (two hi)
theorem up_size {h : Heap} (o : Obj) : (h.push o).objs.size = h.objs.size + 1 := by simp [Heap.push]
theorem tx_sorted {Q : Value → Shared → Prop} (R : TSet P w s.heap a (M.map rowT) es ep t ps) (hh : A.handled = none) (hu : A.units + 64 < cLine) (few : M.length < 300)
    (hQ : ∀ s' p (out : Array Value) (c : Nat) (N : List PRow), (∀ b o, s.heap.get? b = some o → s'.heap.get? b = some o) → s'.gens = s.gens → s'.os = s.os → s.heap.objs.size ≤ p → s'.heap.get? p = some (seqObj "list" out c) →
      out.toList = N.map (fun q => Value.ref q.1) → N.Perm M → N.map (·.2) = srtP (M.map (·.2)) → Q (.ref p) s') : wpAny (model P w) A (call (.builtin "sorted") [.ref a]) Q E s := by
  obtain ⟨o, ho, hx, hd⟩ := R.ob
  have ⟨l1, l2⟩ := R.len
  rw [List.length_map] at l1 l2
  refine Calls.call_function_entry kind_sorted plain_sorted entry_sorted (args_sorted1 _) ?_
  unfold Builtin.«sorted»
  refine wpAny_bind (m := checkCount "sorted" 1 1 _) (wpAny_pure (wpAny_bind (L2.collect_set (A := A.in1) hh ⟨o, ho, hx.1, hd⟩ R.fits (by unfold scanBound; omega) R.tbl.ris R.led fun s1 vs k1 hz g1 o1 pm => ?_)))
  have pm2 : vs.Perm (M.map fun q => Value.ref q.1) := by
    rw [R.rows, List.map_map, List.map_map] at pm
    exact pm
  obtain ⟨M1, pM, rfl⟩ := perm_mapped _ pm2
  have lM : M1.length = M.length := pM.length_eq
  refine wpAny_bind (wpAny_newList ?_ (by rw [List.length_map, lM, sizeLine_eq]; omega))
  have at1 : (s1.heap.push (seqObj "list" (M1.map fun q => Value.ref q.1).toArray 0)).get? s1.heap.objs.size = some (seqObj "list" (M1.map fun q => Value.ref q.1).toArray 0) := Heap.get?_push_size _ rfl
  refine wpAny_bind (wpAny_holding (PySem.W.list_sort_data (β := PRow) (enc := fun q => pD q.2) (R := fun v q => v = Value.ref q.1) (s := { s1 with heap := s1.heap.push (seqObj "list" (M1.map fun q => Value.ref q.1).toArray 0) }) at1 (each_of_list _ M1 fun _ _ => rfl) (each_of_list _ M1 fun q hq => ?_) (.of fun _ _ => rfl) (.tuples fun _ => ⟨_, _, rfl⟩) (by rw [lM, sizeLine_eq]; omega) (fun q _ => ?_) fun out lo eo => ?_))
  · refine ⟨[], reads_pair (P := P) (w := w) ?_, fun z => nomatch z⟩
    exact tx_kept (R.tup _ (List.mem_map_of_mem (pM.mem_iff.mp hq))) fun c u e => Heap.get?_push_of_some _ (k1 c u e)
  · have dp : (pD q.2).depth = 1 := rfl
    rw [dp]
    show A.in1.units + 1 + 1 < cLine
    have : A.in1.units ≤ A.units + 1 := by simp [Around.in1]
    omega
  · obtain ⟨c, hc⟩ := sortedHeap_at (vs := M1.map fun q => Value.ref q.1) (out := out.toArray) at1
    have pS := List.mergeSort_perm M1 (PySem.W.dataLe false fun q : PRow => pD q.2)
    refine wpAny_pure ⟨_, rfl, hQ _ s1.heap.objs.size out.toArray c _ (fun b u e => ?_) g1 o1 hz hc (list_of_each (fun q : PRow => Value.ref q.1) eo) (pS.trans pM) ?_⟩
    · have lt := Heap.lt_size (k1 b u e)
      show (sortedHeap _ s1.heap.objs.size _ _).get? b = some u
      rw [sortedHeap_old (Nat.ne_of_lt lt) (by rw [up_size]; exact Nat.lt_succ_of_lt lt)]
      exact Heap.get?_push_of_some _ (k1 b u e)
    · rw [List.map_mergeSort (f := fun q : PRow => q.2) (r := PySem.W.dataLe false fun q : PRow => pD q.2) (s := leP) fun _ _ _ _ => rfl]
      show srtP (M1.map fun q : PRow => q.2) = srtP (M.map fun q : PRow => q.2)
      refine ((srtP_perm _).trans ((pM.map fun q : PRow => q.2).trans (srtP_perm _).symm)).eq_of_pairwise (le := fun x y => leP x y = true) (fun x y _ _ h1 h2 => ?_) (List.pairwise_mergeSort leP_trans leP_total _) (List.pairwise_mergeSort leP_trans leP_total _)
      rcases ltP2_tri x y with z | z | z
      · exact absurd z (leP_iff.mp h2)
      · exact z
      · exact absurd z (leP_iff.mp h1)
end
/-! ### over the tracked heap -/
def PSetO (P : Program) (w : World) (a : Addr) (M : List PRow) : HO := .ext fun h => ∃ es ep t ps, (∃ o, h.get? a = some o ∧ o.ExactSet ∧ o.data = .set es ep t) ∧ es.toList = (M.map rowT).map (rowV P w) ∧ Tbl t ps ∧ ps.map (·.1) = (M.map rowT).map (fun p => hTx P w p.2) ∧ ((M.map rowT).map (·.2)).Nodup ∧
  (w.params.followText "set-order" = true ∨ t.led = true) ∧ (M.map rowT).length * 5 < t.mask * 3
theorem pSetO_new {P : Program} {w : World} {H : Hp} {h : Heap} {a : Addr} {M : List PRow} {es : Array (Int × Value)} {ep : Nat} {t : SetTable} {ps : List (Int × Nat)} (R : TSet P w h a (M.map rowT) es ep t ps) : ObjOk P w H h a (PSetO P w a M) := by
  obtain ⟨o, ho, r⟩ := R.ob
  refine ⟨⟨es, ep, t, ps, R.ob, R.rows, R.tbl, R.hash, R.once, R.led, R.room⟩, ⟨o, ho⟩, fun h1 h2 z k => ?_⟩
  obtain ⟨es', ep', t', ps', ⟨o', ho', r'⟩, q⟩ := z
  exact ⟨es', ep', t', ps', ⟨o', k o' ho', r'⟩, q⟩
section
variable {X : Cx} {pins : List (Addr × Obj)} {σ : L2.St} {H : Hp} {s : Shared}
theorem dt_pair {v : V} {q : Pr} (h : Dt H v (pD q)) : ∃ a, v = .ref a ∧ H a = some (.tup [.str q.1, .str q.2]) := by
  cases h with
  | tup h1 h2 =>
    cases h2 with
    | cons a1 r =>
      cases a1
      cases r with
      | cons a2 r2 =>
        cases a2
        cases r2
        exact ⟨_, rfl, h1⟩
theorem inv_pair (I : Inv X pins σ H s) {q : PRow} (h : H q.1 = some (.tup [.str q.2.1, .str q.2.2])) : IsTx X.prog X.w s.heap (rowT q).2 q.1 := by
  obtain ⟨its, rv, ⟨o, ho, hc, n, hd⟩, _⟩ := I.tuple (.inl (.inl h))
  refine ⟨o, its.toArray, n, ho, hc, hd, ?_⟩
  show ItemsAre _ [q.2.1, q.2.2] its
  cases rv with
  | cons r1 r =>
    obtain ⟨t1, rfl⟩ := r1
    cases r with
    | cons r2 r =>
      obtain ⟨t2, rfl⟩ := r2
      cases r
      exact .cons (strKind_is _ _ _ _) (.cons (strKind_is _ _ _ _) .nil)
theorem rows_of {xs : List V} : ∀ {ps : List Pr}, DtAll H xs (ps.map pD) → ∃ ks : List PRow, xs = ks.map (fun q => .ref q.1) ∧ ks.map (·.2) = ps ∧ ∀ q ∈ ks, H q.1 = some (.tup [.str q.2.1, .str q.2.2]) := by
  induction xs with
  | nil =>
    intro ps h
    cases ps with
    | nil => exact ⟨[], rfl, rfl, fun _ z => nomatch z⟩
    | cons p ps => cases h
  | cons x xs ih =>
    intro ps h
    cases ps with
    | nil => cases h
    | cons p ps =>
      cases h with
      | cons h1 h2 =>
        obtain ⟨a, rfl, ha⟩ := dt_pair h1
        obtain ⟨ks, rfl, rfl, hk⟩ := ih h2
        exact ⟨(a, p) :: ks, rfl, rfl, fun q hq => by
          rcases List.mem_cons.mp hq with rfl | hq
          · exact ha
          · exact hk q hq⟩
theorem rows_dt : ∀ {N : List PRow}, (∀ q ∈ N, H q.1 = some (.tup [.str q.2.1, .str q.2.2])) → DtAll H (N.map fun q => .ref q.1) ((N.map (·.2)).map pD)
  | [], _ => .nil
  | q :: N, h => .cons (.tup (h q List.mem_cons_self) (.cons (.str _) (.cons (.str _) .nil))) (rows_dt fun x hx => h x (List.mem_cons_of_mem _ hx))
/-- set(xs) -/
def rSetP (P : Program) (w : World) : List V → Hp → VK → Prop := fun vs H Q => ∃ (l : Addr) (xs : List V) (ps : List Pr), vs = [.ref l] ∧ H l = some (.lst xs) ∧ DtAll H xs (ps.map pD) ∧ ps.length < 300 ∧
  ∀ a M, H a = none → (∀ q ∈ M, H q.1 = some (.tup [.str q.2.1, .str q.2.2])) → (M.map (·.2)).Nodup → (∀ p, p ∈ M.map (·.2) ↔ p ∈ ps) → Q (.ref a) (upd H a (PSetO P w a M))
theorem cr_setP (hc : X.calm = true) (hu : X.A.units + 64 < cLine) : CallR X (.type "set") (rSetP X.prog X.w) := by
  intro pins s σ H vs us Q I r h
  obtain ⟨l, xs, ps, rfl, hl, hx, few, q⟩ := h
  obtain ⟨u, rfl, ru⟩ := vals1 r
  obtain rfl : u = Value.ref l := ru
  obtain ⟨its, rv, pl, _⟩ := I.list (.inl (.inl hl))
  obtain ⟨ks, rfl, rfl, hk⟩ := rows_of hx
  rw [List.length_map] at few
  have refs : ∀ {ks : List PRow} {us : List Value}, Vals (ks.map fun q => V.ref q.1) us → us = (ks.map rowT).map fun p => Value.ref p.1 := by
    intro ks
    induction ks with
    | nil => intro us z; cases z; rfl
    | cons k ks ih =>
      intro us z
      cases z with
      | cons z1 z2 =>
        cases z1
        rw [ih z2]
        rfl
  refine tx_set (P := X.prog) (w := X.w) (ks := ks.map rowT) (I.ok.hd hc) pl.isList (by simpa using refs rv) (fun p hp => ?_) (by rw [List.length_map]; exact few) (by omega) fun h' n L es ep t qs T g kp => ?_
  · obtain ⟨q, hq, rfl⟩ := List.mem_map.mp hp
    exact inv_pair I (hk q hq)
  · rw [List.length_map] at g
    obtain ⟨M, rfl, hM⟩ := rowT_list (L := L) (ks := ks) fun p hp => List.mem_of_mem_take (g.of p hp)
    refine ⟨.ref s.heap.objs.size, upd H s.heap.objs.size (PSetO X.prog X.w s.heap.objs.size M), I.laid (t' := n) kp (Nat.le_refl _) (pSetO_new T), rfl, q _ M (I.hok.fresh (Nat.le_refl _)) (fun q hq => hk q (hM q hq)) ?_ fun p => ⟨fun hp => ?_, fun hp => ?_⟩⟩
    · have z := T.once
      rw [List.map_map] at z
      refine List.pairwise_map.mpr ((List.pairwise_map.mp z).imp fun {x y} ne e => ne ?_)
      show [x.2.1, x.2.2] = [y.2.1, y.2.2]
      rw [e]
    · obtain ⟨q, hq, rfl⟩ := List.mem_map.mp hp
      exact List.mem_map_of_mem (hM q hq)
    · obtain ⟨q, hq, rfl⟩ := List.mem_map.mp hp
      have z := g.has (rowT q) (by rw [List.take_of_length_le (by rw [List.length_map]; exact Nat.le_refl _)]; exact List.mem_map_of_mem hq)
      rw [List.map_map] at z
      obtain ⟨q2, hq2, e⟩ := List.mem_map.mp z
      exact List.mem_map.mpr ⟨q2, hq2, rowT_inj e⟩
/-- sorted(a set of pairs) -/
def rSortSP (P : Program) (w : World) : List V → Hp → VK → Prop := fun vs H Q => ∃ (a : Addr) (M : List PRow), vs = [.ref a] ∧ H a = some (PSetO P w a M) ∧ (∀ q ∈ M, H q.1 = some (.tup [.str q.2.1, .str q.2.2])) ∧ M.length < 300 ∧
  ∀ ys p, H p = none → DtAll H ys ((srtP (M.map (·.2))).map pD) → Q (.ref p) (upd H p (.lst ys))
theorem cr_sortSP (hc : X.calm = true) (hu : X.A.units + 64 < cLine) : CallR X (.builtin "sorted") (rSortSP X.prog X.w) := by
  intro pins s σ H vs us Q I r h
  obtain ⟨a, M, rfl, ha, hM, few, q⟩ := h
  obtain ⟨u, rfl, ru⟩ := vals1 r
  obtain rfl : u = Value.ref a := ru
  obtain ⟨es, ep, t, ps, z1, z2, z3, z4, z5, z6, z7⟩ := (I.hok a _ ha).1
  have R : TSet X.prog X.w s.heap a (M.map rowT) es ep t ps := ⟨z1, z2, z3, z4, z5, fun p hp => by
    obtain ⟨x, hx, rfl⟩ := List.mem_map.mp hp
    exact inv_pair I (hM x hx), z6, z7⟩
  refine tx_sorted R (I.ok.hd hc) hu few fun s' p out c N kp g o hp hg ho pN eN => ?_
  have hN : ∀ q ∈ N, H q.1 = some (.tup [.str q.2.1, .str q.2.2]) := fun q hq => hM q (pN.mem_iff.mp hq)
  have vals : ∀ {N : List PRow}, Vals (N.map fun q => V.ref q.1) (N.map fun q => Value.ref q.1) := by
    intro N
    induction N with
    | nil => exact .nil
    | cons q N ih => exact .cons rfl ih
  have lz : (N.map fun q => V.ref q.1).length ≤ sizeLine := by rw [List.length_map, pN.length_eq, sizeLine_eq]; omega
  have hn : H p = none := I.hok.fresh hp
  have J : Inv X pins σ (upd H p (.lst (N.map fun q => V.ref q.1))) { s with heap := s'.heap, gens := s'.gens, drawn := s'.drawn, toks := s'.toks } :=
    I.call (ch := []) (Un.laid kp hp hn) (I.hok.laid kp hp ⟨lz, out.toList, c, by rw [ho]; exact vals, hg⟩) (by rw [g]; exact I.bare) (fun _ z => nomatch z)
  obtain ⟨h2, g2, d2, t2, os2⟩ := s'
  have o' : os2 = s.os := o
  subst o'
  refine ⟨.ref p, _, J, rfl, q _ p hn ?_⟩
  rw [← eN]
  exact rows_dt hN
end
end Cr
/-! lists of names and pairs -/
namespace Cr
open PySem PySem.Spec PyProof.Rows L2 Evl
/-- a pair at the end of a list of pairs -/
theorem app_pD {p lf T : Addr} {H H' : Hp} {fs : List Pr} {xs : List V} {q : Pr} (hd : DtAll (wo p H) xs (fs.map pD)) (hx : H lf = some (.lst xs)) (e : Ex H H') (hT : H' T = some (.tup [.str q.1, .str q.2])) (nT : T ≠ p) (nl : lf ≠ p) : Dt (wo p (upd H' lf (.lst (xs ++ [.ref T])))) (.ref lf) (.list ((fs ++ [q]).map pD)) := by
  have hx' := e _ _ hx
  refine .lst (by rw [wo_ne nl, upd_same]) (tups_keep (H := H') (fun {S ys} hS => ?_) ?_)
  · obtain ⟨n, hS⟩ := wo_some hS
    rw [wo_ne n, upd_ne (fun z => by rw [z, hx'] at hS; cases hS)]
    exact hS
  · rw [List.map_append]
    exact dtAll_app (DtAll.ex (Ex.wo e) hd) (.cons (.tup (by rw [wo_ne nT]; exact hT) (.cons (.str _) (.cons (.str _) .nil))) .nil)
theorem pigeonP {l k : List Pr} (nd : l.Nodup) (h : ∀ q ∈ l, q ∈ k) : l.length ≤ k.length := by
  induction l generalizing k with
  | nil => exact Nat.zero_le _
  | cons w ws ih =>
    rw [List.nodup_cons] at nd
    have hw := h w List.mem_cons_self
    have z := ih (k := k.erase w) nd.2 fun q hq => (List.mem_erase_of_ne (fun e : q = w => nd.1 (by rw [← e]; exact hq))).mpr (h q (List.mem_cons_of_mem _ hq))
    rw [List.length_erase_of_mem hw] at z
    have := List.length_pos_of_mem hw
    rw [List.length_cons]
    omega
theorem NewG.back {C : Addr} {HB H0 H : Hp} {p x : Addr} {A : NdA} {U : List Str} {g : List Row} (h : NewG C H0 H x A U g) (r : Drew p HB H0) (pot : Pot HB p) : NewG C HB H x A U g := ⟨h.nd, fresh_drew r pot h.zx, fresh_drew r pot h.zd, fun y hy => fresh_drew r pot (h.za y hy)⟩
theorem Kp.few9 {C : Addr} {HB H : Hp} {p x lp : Addr} {A : NdA} {g : List Row} {ns : List Str} {ps : List Pr} (h : Kp C HB H p x lp A g ns ps) (l9 : ns.length ≤ 9) : ps.length ≤ 81 := by
  have z := pigeonP (k := ns.flatMap fun a => ns.map fun b => ((a, b) : Pr)) h.dis fun q hq => by
    have u := h.ng.nd.ok.tgU ((h.hm q).mpr hq)
    exact List.mem_flatMap.mpr ⟨q.1, u.1, List.mem_map.mpr ⟨q.2, u.2, rfl⟩⟩
  have e : ∀ l : List Str, (l.flatMap fun a => ns.map fun b => ((a, b) : Pr)).length = l.length * ns.length := by
    intro l
    induction l with
    | nil => simp
    | cons a r ih => rw [List.flatMap_cons, List.length_append, ih, List.length_map, List.length_cons, Nat.succ_mul, Nat.add_comm]
  rw [e] at z
  exact Nat.le_trans z (Nat.le_trans (Nat.mul_le_mul l9 l9) (by decide))
theorem evp_names {p ln : Addr} {H : Hp} {ns : List Str} {σ : L2.St} {i j : Nat} {E : XK} (nl : ln ≠ p) (hl : H ln = some (.lst (ns.map V.str))) (n0 : 0 < ns.length) (n1 : ns.length ≤ 1000) (h0 : σ[i]? = some (some (.ref p))) (h2 : σ[j]? = some (some (.ref ln))) : EvP p (tCall spChoice [] E (tCons (tVar i) (tCons (tVar j) tNil))) σ H (fun d => ∃ n ∈ ns, d = .str n) := by
  have dn : Dt (wo p H) (.ref ln) (.list (ns.map PyData.str)) := .lst (by rw [wo_ne nl]; exact hl) (dts_strs ns)
  refine evp_mono (evp_choice (SA := fun ds => ds = ns.map PyData.str) h0 (evp_mono (evp_var h2 dn) fun d e => ⟨_, e, rfl⟩) (fun ds e => by subst e; rw [List.length_map]; omega)) fun d ⟨ds, e, m⟩ => ?_
  subst e
  obtain ⟨n, hn, rfl⟩ := List.mem_map.mp m
  exact ⟨n, hn, rfl⟩
theorem upd_keep {H : Hp} {T lp : Addr} {o v w : HO} (hT : H T = some v) (hl : H lp = some w) (ne : v ≠ w) : (upd H lp o) T = some v := by
  rw [upd_ne (fun e => ne (by rw [e, hl] at hT; exact (Option.some.inj hT).symm))]
  exact hT
theorem q_asgG {te : TE} {g : TG} {D : Ends} {tz : TS} {σ : L2.St} {H : Hp} (h : te σ H fun v H1 => g v σ H1 (tz D)) : tSeq (tAsg te g) tz D σ H := h
end Cr
/-! k21: what is refused -/
namespace Cr
open PySem PySem.Spec PyProof.Rows L2 Evl
abbrev sOR : Stmt := topS 25
abbrev nOR : List Str := ["_law_pot_here", "_law_made", "_law_rows", "_law_names", "_law_one", "_law_odd_here", "_law_other", "_law_last"]
theorem scOR : FnScope nOR ["_law_pot_here", "_law_made", "_law_rows", "_law_names"] (defScope sOR) := ⟨rfl, rfl, rfl, by decide +kernel, rfl, by decide +kernel, by decide +kernel⟩
abbrev qOR : Str := ("_law_odd_right" ++ ".<locals>.") ++ "<lambda>"
theorem nd_odd1 {U : List Str} {g : List Row} {d e : PyData} (h : GOk U g) (hd : isName d = false) : isNd g d e = false := by
  cases e with
  | str t => exact decide_eq_false fun m => by rw [tg_other h hd] at m; exact nomatch m
  | _ => rfl
theorem nd_odd2 {U : List Str} {g : List Row} {d e : PyData} (h : GOk U g) (he : isName e = false) : isNd g d e = false := by
  cases e with
  | str t =>
    refine decide_eq_false fun m => ?_
    cases d with
    | str s =>
      have z := (h.name m).2
      have he' : isNameS t = false := he
      rw [he'] at z
      cases z
    | _ => exact nomatch m
  | _ => rfl
/-- a def that tries what it is handed -/
structure TryDef (K : PySem.W.Frag) (mg : Str → Option Value) (g : Addr) (cdv : Value) : Prop where
  gm : mg "_law_error" = some (.ref g)
  kp : PySem.W.keepIn K (.ref g) = true
  lk : ∃ (oc : Value) (od an : Option Addr) (kV doc pm ct : Value) (osl : Array (Option Value)), K.lookup g = some ⟨oc, od, .func (PySem.W.fnOf "_law_error" "_law_error" (defArgs sErr) (defBody sErr) (defScope sErr) .none kV doc pm an cdv ct), osl⟩
  cd : PySem.W.codeIn K cdv "_law_error" = true
def spOddR (C : Addr) (T : TabL) : Sp := fun vs H Q _ => ∃ (p x lp ln : Addr) (HB : Hp) (A : NdA) (g : List Row) (ns : List Str) (ps : List Pr), vs = [.ref p, .ref x, .ref lp, .ref ln] ∧ LawB HB p ln ns ∧ St C HB H p x lp A g ns ps T ∧ ∀ H', St C HB H' p x lp A g ns ps T → Q (.bl true) H'
/-- a call that is refused for a name -/
theorem tt_name {C CN CD : Addr} {m : Str} {sp : Sp} {σ : L2.St} {i j k : Nat} {x dx : Addr} {fs : List (Str × V)} {v u : V} {d : PyData} {p : Addr} {H1 : Hp} {Qx : VK} (h0 : σ[i]? = some (some (.ref x))) (h1 : σ[j]? = some (some v)) (h2 : σ[k]? = some (some u)) (ob : H1 x = some (.ins C dx fs)) (hl : fs.lookup m = none) (pot : Pot H1 p) (ok : OkO d)
    (hs : ∀ E R, (∀ dx H', Rsd1 H1 H' dx "value" d → E (.ref CN) (some dx) H') → sp [.ref x, v, u] H1 R E) (q : ∀ H2, Drew p H1 H2 → Qx (.str (nameD d).shown) H2) :
    TTErr CN CD (fun E H' Q' => tMeth C m sp [] E (tVar i) (tCons (tVar j) (tCons (tVar k) tNil)) σ H' Q') H1 Qx := by
  intro E R hN hD
  refine ⟨.ref x, h0, x, dx, fs, rfl, ob, hl, v, h1, u, h2, ?_⟩
  dsimp only [tNil]
  refine hs E R fun dx' H' r => ?_
  obtain ⟨w', hx, hw⟩ := r.at_
  exact hN dx' H' w' d ok hx hw fun H2 e2 => q H2 (Drew.of pot (r.ex.trans e2))
theorem tt_need {C CN CD : Addr} {m : Str} {sp : Sp} {σ : L2.St} {i j k : Nat} {x dx : Addr} {fs : List (Str × V)} {v u : V} {d e : PyData} {p : Addr} {H1 : Hp} {Qx : VK} (h0 : σ[i]? = some (some (.ref x))) (h1 : σ[j]? = some (some v)) (h2 : σ[k]? = some (some u)) (ob : H1 x = some (.ins C dx fs)) (hl : fs.lookup m = none) (pot : Pot H1 p) (ok : OkO d) (ok2 : OkO e)
    (hs : ∀ E R, (∀ dx H', Rsd2 H1 H' dx "source" "target" d e → E (.ref CD) (some dx) H') → sp [.ref x, v, u] H1 R E) (q : ∀ H2, Drew p H1 H2 → Qx (.str (needD d e).shown) H2) :
    TTErr CN CD (fun E H' Q' => tMeth C m sp [] E (tVar i) (tCons (tVar j) (tCons (tVar k) tNil)) σ H' Q') H1 Qx := by
  intro E R hN hD
  refine ⟨.ref x, h0, x, dx, fs, rfl, ob, hl, v, h1, u, h2, ?_⟩
  dsimp only [tNil]
  refine hs E R fun dx' H' r => ?_
  obtain ⟨w1, w2, hx, hw1, hw2⟩ := r.at_
  exact hD dx' H' w1 w2 d e ok ok2 hx hw1 hw2 fun H2 e2 => q H2 (Drew.of pot (r.ex.trans e2))
section
variable {C CN CD x : Addr} {A : NdA} {U : List Str} {g : List Row} {H : Hp} {v u : V} {d e : PyData} {R : VK} {E : XK}
theorem rec_bad1 (nd : NdAt C H x A U g) (hd : Dt H v d) (he : Dt H u e) (o1 : OkO d) (o2 : OkO e) (n : isName d = false) (h : ∀ dx H', Rsd1 H H' dx "value" d → E (.ref CN) (some dx) H') : spRecord C CN 3 [.ref x, v, u] H R E :=
  ⟨x, v, u, d, e, A, U, g, rfl, nd, hd, he, o1.sm, o2.sm, o1.cp, o2.cp, fun _ => h, fun z => (by rw [n] at z; cases z), fun z => (by rw [n] at z; cases z)⟩
theorem rec_bad2 (nd : NdAt C H x A U g) (hd : Dt H v d) (he : Dt H u e) (o1 : OkO d) (o2 : OkO e) (n : isName d = true) (n2 : isName e = false) (h : ∀ dx H', Rsd1 H H' dx "value" e → E (.ref CN) (some dx) H') : spRecord C CN 3 [.ref x, v, u] H R E :=
  ⟨x, v, u, d, e, A, U, g, rfl, nd, hd, he, o1.sm, o2.sm, o1.cp, o2.cp, fun z => (by rw [n] at z; cases z), fun _ _ => h, fun _ z => (by rw [n2] at z; cases z)⟩
theorem del_bad (nd : NdAt C H x A U g) (hd : Dt H v d) (he : Dt H u e) (o1 : OkO d) (o2 : OkO e) (n : isNd g d e = false) (h : ∀ dx H', Rsd2 H H' dx "source" "target" d e → E (.ref CD) (some dx) H') : spDel C CD 3 [.ref x, v, u] H R E :=
  ⟨x, v, u, d, e, A, U, g, rfl, nd, hd, he, o1.sm, o2.sm, o1.cp, o2.cp, fun _ => h, fun s t e1 e2 m => by
    subst e1 e2
    have z : isNd g (.str s) (.str t) = true := decide_eq_true m
    rw [n] at z
    cases z⟩
end
theorem atI_end {ns : List Str} (n0 : 0 < ns.length) : ∃ z ∈ ns, atI (ns.map V.str) (-1) = some (.str z) := by
  have hne : ns ≠ [] := fun e => by rw [e] at n0; cases n0
  refine ⟨ns.getLast hne, List.getLast_mem hne, ?_⟩
  have z := atI_last (ns.dropLast.map V.str) (V.str (ns.getLast hne))
  rw [show ns.dropLast.map V.str ++ [V.str (ns.getLast hne)] = (ns.dropLast ++ [ns.getLast hne]).map V.str by rw [List.map_append]; rfl, List.dropLast_concat_getLast hne] at z
  exact z
abbrev tRec (C CN : Addr) (i j k : Nat) (E : XK) : TE := tMeth C "record" (spRecord C CN 3) [] E (tVar i) (tCons (tVar j) (tCons (tVar k) tNil))
abbrev tDel (C CD : Addr) (i j k : Nat) (E : XK) : TE := tMeth C "delete" (spDel C CD 3) [] E (tVar i) (tCons (tVar j) (tCons (tVar k) tNil))
theorem q_andRaw {t u : TT} {tw tz : TS} {D : Ends} {σ : L2.St} {H : Hp} {b : Bool} (h : EvT t σ H b) (no : b = false → ∀ H1, Ex H H1 → tz D σ H1) (yes : b = true → ∀ H1, Ex H H1 → ∀ R : Bool → Hp → Prop, (∀ H2, tz D σ H2 → R false H2) → u σ H1 R) : tSeq (tIfS (tAnd t u) tw tNext) tz D σ H := h H (Ex.refl H) _ fun H1 e1 => by
  cases b with
  | false => exact no rfl H1 e1
  | true => exact yes rfl H1 e1 _ fun H2 z => z
section
variable {P : Program} {w : World} {K : PySem.W.Frag} {mg : Str → Option Value} {base : Heap}
theorem ok_oddR {f C CN CD CL CM CT g0 c P1 P2 : Addr} {cdg : Value} {fd : FuncData} {k : Nat} {q2 : Str} (F : FunC K "_law_odd_right" "_law_odd_right" sOR f fd (.ref c)) (B : Blt mg) (N : NdC K mg C) (Er : ErrQ K mg CN CD CL CM CT) (Tr : TryDef K mg g0 cdg) (TB : LamX.TabB base mg c P1) (ne : P2 ≠ P1)
    (h1 : Has P w K mg base (k + 2) "_law_choice" ["_law_pot_here", "_law_options"] spChoice) (h2 : Has P w K mg base (k + 2) "_law_odd" ["_law_pot_here"] (spDrawn OddD))
    (h3 : HasM P w K mg base (L2.CX P w) k C "record" ["self", "source", "target"] (spRecord C CN 3)) (h4 : HasM P w K mg base (L2.CX P w) k C "delete" ["self", "source", "target"] (spDel C CD 3)) (h5 : HasM P w K mg base CX0 (k + 2) C "targets" ["self", "name"] (spTargets C)) (h6 : HasM P w K mg base CX0 (k + 2) C "sources" ["self", "name"] (spSources C)) (h7 : HasM P w K mg base CX0 (k + 2) C "delete_all" ["self", "source"] (spDelAll C)) :
    FnG P w K mg base CX0 (k + 2 + 1) f fd ["_law_pot_here", "_law_made", "_law_rows", "_law_names"] (spOddR C [(P1, qOR), (P2, q2)]) := by
  obtain ⟨f1, d1, G1, b1, k1, g1⟩ := h1.ex
  obtain ⟨f2, d2, G2, b2, k2, g2⟩ := h2.ex
  obtain ⟨f3, d3, G3, b3, m3⟩ := h3.ex
  obtain ⟨f4, d4, G4, b4, m4⟩ := h4.ex
  obtain ⟨f5, d5, G5, b5, m5⟩ := h5.ex
  obtain ⟨f6, d6, G6, b6, m6⟩ := h6.ex
  obtain ⟨f7, d7, G7, b7, m7⟩ := h7.ex
  obtain ⟨oc, od, an, kV, doc, pm, ct, osl, lk⟩ := Tr.lk
  refine okGC F scOR (fun vs H Q E h => by obtain ⟨_, _, _, _, _, _, _, _, _, rfl, _⟩ := h; rfl) (fun A outer s H vs Q E hq hr h => ?_)
  obtain ⟨p, x, lp, ln, HB, A', g, ns, ps, rfl, LB, st, q⟩ := h
  have lam : ∀ {body : Expr} {params : Arguments} {scope : Scope} {t : XK → TE} {p0 lpos pos : Pos}, LamX.LamS (defScope sOR) scope → defaultsOf params (envOfC "_law_odd_right" (defScope sOR) s.heap.objs.size f (.ref c)) = ([], []) →
      (∀ (q : Str) (cl : List (Str × Addr)) (pm cv ctv : Value), bindArgs (PySem.W.kla_fn "<lambda>" q params body scope cl pm cv ctv) ⟨[], []⟩ = pure []) →
      (∀ (A2 : Around) (outer2 : List Env) (s2 : Shared) (H2 : Hp) (E2 : XK) (f2 c2 : Addr), Quiet A2 → Room k (A2.deeper (LamX.lamEnv (cxOf CX0 P w K mg base nOR "_law_odd_right" (defScope sOR) f (.ref c) A outer s H E).nox scope s2.heap.objs.size f2 c2)) → PE (LamX.lamCx (cxOf CX0 P w K mg base nOR "_law_odd_right" (defScope sOR) f (.ref c) A outer s H E).nox A2 outer2 s2 H2 E2 scope f2 c2) body (t E2)) →
      PE (cxOf CX0 P w K mg base nOR "_law_odd_right" (defScope sOR) f (.ref c) A outer s H E).nox (.Call (.Name "_law_error" p0) [.Lambda params body scope lpos] [] pos) (LamX.tLam [(P1, qOR), (P2, q2)] (TTErr CN CD) t) := fun L hdef hbind hbody =>
    pe_lamS (X := (cxOf CX0 P w K mg base nOR "_law_odd_right" (defScope sOR) f (.ref c) A outer s H E).nox) (k := k) (c := c) (P := P1) (Ng := nErr) (sg := defScope sErr) (bg := defBody sErr) (by rfl) Tr.gm Tr.kp lk Tr.cd (.all fun us hl => match us, hl with | [_], _ => rfl) scErr rfl (.inl rfl) (err_gives B Er hq) TB rfl List.mem_cons_self
      (fun z hz e => by
        rcases List.mem_cons.mp hz with rfl | hz
        · rfl
        · rw [List.mem_singleton.mp hz] at e
          exact absurd e ne) hq hr L hdef hbind hbody
  refine ⟨_, pss_cons (ps_asg (pe_tup (pa_cons (callG (E := E0) G1 hq hr (by rfl) g1 k1 b1 .nil pass0 (pa_cons (pv 0) (pa_cons (pv 3) pa_nil))) (pa_cons (callG (E := E0) G2 hq hr (by rfl) g2 k2 b2 .nil pass0 (pa_cons (pv 0) pa_nil)) pa_nil))) (pg_tup rfl (pgs_cons (pg_name (i := 4) scOR.nd rfl (.inr rfl)) (pgs_cons (pg_name (i := 5) scOR.nd rfl (.inr rfl)) pgs_nil))))
    (pss_cons (ps_set (i := 6) scOR.nd rfl (.inr rfl) (callG (E := E0) G1 hq hr (by rfl) g1 k1 b1 .nil pass0 (pa_cons (pv 0) (pa_cons (pe_lst (pa_cons (callG (E := E0) G2 hq hr (by rfl) g2 k2 b2 .nil pass0 (pa_cons (pv 0) pa_nil)) (pa_cons (pv 4) pa_nil))) pa_nil))))
    (pss_cons (ps_if (pt_cmpR op_ne (lam (t := tRec C CN 1 5 6) (LamX.lamS_by (by decide +kernel)) rfl (fun _ _ _ _ _ => rfl) (fun A2 outer2 s2 H2 E2 f2 c2 hq2 hr2 => by exact pe_meth (E := E2) (pv 1) N.cl m3 G3 hr2 b3 .nil (passes_call (takes_of rfl rfl rfl rfl) fun _ _ _ _ h => h) (pa_cons (pv 5) (pa_cons (pv 6) pa_nil)))) (pe_callB (call_reprG hq hr.units) (by rfl) B.repr bRepr (pa_cons (pe_lst (pa_cons pe_str (pa_cons (pv 5) pa_nil))) pa_nil)) (nomark _)) (pss_one (ps_ret pe_bl)) pss_nil)
    (pss_cons (ps_if (pt_cmpR op_ne (lam (t := tRec C CN 1 4 5) (LamX.lamS_by (by decide +kernel)) rfl (fun _ _ _ _ _ => rfl) (fun A2 outer2 s2 H2 E2 f2 c2 hq2 hr2 => by exact pe_meth (E := E2) (pv 1) N.cl m3 G3 hr2 b3 .nil (passes_call (takes_of rfl rfl rfl rfl) fun _ _ _ _ h => h) (pa_cons (pv 4) (pa_cons (pv 5) pa_nil)))) (pe_callB (call_reprG hq hr.units) (by rfl) B.repr bRepr (pa_cons (pe_lst (pa_cons pe_str (pa_cons (pv 5) pa_nil))) pa_nil)) (nomark _)) (pss_one (ps_ret pe_bl)) pss_nil)
    (pss_cons (ps_if (pt_cmpR op_ne (lam (t := tDel C CD 1 5 4) (LamX.lamS_by (by decide +kernel)) rfl (fun _ _ _ _ _ => rfl) (fun A2 outer2 s2 H2 E2 f2 c2 hq2 hr2 => by exact pe_meth (E := E2) (pv 1) N.cl m4 G4 hr2 b4 .nil (passes_call (takes_of rfl rfl rfl rfl) fun _ _ _ _ h => h) (pa_cons (pv 5) (pa_cons (pv 4) pa_nil)))) (pe_callB (call_reprG hq hr.units) (by rfl) B.repr bRepr (pa_cons (pe_lst (pa_cons pe_str (pa_cons (pv 5) (pa_cons (pv 4) pa_nil)))) pa_nil)) (nomark _)) (pss_one (ps_ret pe_bl)) pss_nil)
    (pss_cons (ps_if (pt_cmpR op_ne (lam (t := tDel C CD 1 4 5) (LamX.lamS_by (by decide +kernel)) rfl (fun _ _ _ _ _ => rfl) (fun A2 outer2 s2 H2 E2 f2 c2 hq2 hr2 => by exact pe_meth (E := E2) (pv 1) N.cl m4 G4 hr2 b4 .nil (passes_call (takes_of rfl rfl rfl rfl) fun _ _ _ _ h => h) (pa_cons (pv 4) (pa_cons (pv 5) pa_nil)))) (pe_callB (call_reprG hq hr.units) (by rfl) B.repr bRepr (pa_cons (pe_lst (pa_cons pe_str (pa_cons (pv 4) (pa_cons (pv 5) pa_nil)))) pa_nil)) (nomark _)) (pss_one (ps_ret pe_bl)) pss_nil)
    (pss_cons (ps_set (i := 7) scOR.nd rfl (.inr rfl) (pe_ix ix_list (pv 3) (pe_un un_neg pe_int) (fun _ _ => rfl)))
    (pss_cons (ps_if (PW.pt (pw_and (pt_cmpR (op_notInLDt hr.units) (pe_tup (pa_cons (pv 4) (pa_cons (pv 7) pa_nil))) (pv 2) (by rfl)) (pw_and1 (pt_cmpR op_ne (lam (t := tDel C CD 1 4 7) (LamX.lamS_by (by decide +kernel)) rfl (fun _ _ _ _ _ => rfl) (fun A2 outer2 s2 H2 E2 f2 c2 hq2 hr2 => by exact pe_meth (E := E2) (pv 1) N.cl m4 G4 hr2 b4 .nil (passes_call (takes_of rfl rfl rfl rfl) fun _ _ _ _ h => h) (pa_cons (pv 4) (pa_cons (pv 7) pa_nil)))) (pe_callB (call_reprG hq hr.units) (by rfl) B.repr bRepr (pa_cons (pe_lst (pa_cons pe_str (pa_cons (pv 4) (pa_cons (pv 7) pa_nil)))) pa_nil)) (nomark _))))) (pss_one (ps_ret pe_bl)) pss_nil)
    (pss_one (ps_ret (pe_cmpR (op_eqDt hr.units) (pe_lst (pa_cons (pe_meth (E := E0) (pv 1) N.cl m5 G5 hr b5 .nil pass0 (pa_cons (pv 5) pa_nil)) (pa_cons (pe_meth (E := E0) (pv 1) N.cl m6 G6 hr b6 .nil pass0 (pa_cons (pv 5) pa_nil)) (pa_cons (pe_meth (E := E0) (pv 1) N.cl m7 G7 hr b7 .nil pass0 (pa_cons (pv 5) pa_nil)) pa_nil)))) (pe_lst (pa_cons (pe_lst pa_nil) (pa_cons (pe_lst pa_nil) (pa_cons pe_int pa_nil)))) (nomark _))))))))))), ?_⟩
  refine q_asgPG (p := p) (evp_tup (evpa_cons (evp_names LB.nl (st.names LB) LB.n0 (by have := LB.n8; omega) rfl rfl) (evpa_cons (evp_drawn (S := OddD) rfl) evpa_nil)) (fun ds ⟨d, es, e1, _, e, es2, e2, _, e3⟩ => by subst e1 e2 e3; show 2 ≤ 1000; decide)) st.pot fun v d H1 r1 hs hv => ?_
  obtain ⟨ds, rfl, dn, es, rfl, ⟨nm, hnm, rfl⟩, d2, es2, rfl, od, rfl⟩ := hs
  cases hv with
  | @tup T _ _ hT hv =>
  cases hv with
  | @cons va _ _ _ hva hv =>
  cases hva
  cases hv with
  | @cons v2 _ _ _ hv2 hv =>
  cases hv
  refine ⟨T, _, rfl, st_of (wo_some hT).2, rfl, .str nm, _, rfl, v2, _, rfl, rfl, ?_⟩
  show tSeq _ _ _ [some (.ref p), some (.ref x), some (.ref lp), some (.ref ln), some (.str nm), some v2, none, none] H1
  have nmo := LB.nm nm hnm
  have okn := nameO nmo
  refine q_asgP (p := p) (S := OkO) (evp_mono (evp_choice (SA := fun ds => ∃ a, ds = [a, .str nm] ∧ OddD a) rfl (evp_mono (evp_lst (evpa_cons (evp_drawn (S := OddD) rfl) (evpa_cons (evp_var rfl (.str nm)) evpa_nil)) (fun ds ⟨d, es, e1, _, e, es2, e2, _, e3⟩ => by subst e1 e2 e3; show 2 ≤ 1000; decide)) (fun d ⟨ds, e0, a, es, e1, oa, b, es2, e2, e3, e4⟩ => ⟨ds, e0, a, by rw [e1, e2, e3, e4], oa⟩)) (fun ds ⟨a, e, _⟩ => by subst e; exact ⟨by show 0 < 2; decide, by show 2 ≤ 1000; decide⟩)) (fun d ⟨ds, ⟨a, e, oa⟩, m⟩ => by
    subst e
    rcases List.mem_cons.mp m with rfl | m
    · exact oa.ok
    · rw [List.mem_singleton.mp m]; exact okn)) r1.pot fun v3 d3 H2 r2 ok3 hv3 => ?_
  have st2 := (st.drew r1).drew r2
  have a2 := r2.dt hv2
  show tSeq _ _ _ [some (.ref p), some (.ref x), some (.ref lp), some (.ref ln), some (.str nm), some v2, some v3, none] H2
  -- four calls
  refine q_lamNe (x := (nameD d2).shown) st2.pot st2.tb (fun H3 e3 t3 pt3 Qx qx => tt_name rfl rfl rfl (st2.exN LB e3 t3).kp.ng.nd.ob rfl pt3 od.ok (fun E R h => rec_bad1 (st2.exN LB e3 t3).kp.ng.nd (dt_wo (Dt.exN (exN_wo e3) a2)) (dt_wo (Dt.exN (exN_wo e3) hv3)) od.ok ok3 od.no h) qx)
    (fun H3 H4 e3 t3 r4 => ev_reprD (evd_lst (evda_cons evd_str (evda_cons (evd_var rfl (dt_wo (r4.dt (Dt.exN (exN_wo e3) a2)))) evda_nil)) (by show 2 ≤ 1000; decide)) (fitN od.ok)) (fun H3 H4 e3 t3 r4 => ?_)
  have st4 := (st2.exN LB e3 t3).drew r4
  have a4 := r4.dt (Dt.exN (exN_wo e3) a2)
  clear st2 a2 hv3 e3 t3 r4
  refine q_lamNe (x := (nameD d2).shown) st4.pot st4.tb (fun H5 e5 t5 pt5 Qx qx => tt_name rfl rfl rfl (st4.exN LB e5 t5).kp.ng.nd.ob rfl pt5 od.ok (fun E R h => rec_bad2 (st4.exN LB e5 t5).kp.ng.nd (.str nm) (dt_wo (Dt.exN (exN_wo e5) a4)) okn od.ok nmo od.no h) qx)
    (fun H5 H6 e5 t5 r6 => ev_reprD (evd_lst (evda_cons evd_str (evda_cons (evd_var rfl (dt_wo (r6.dt (Dt.exN (exN_wo e5) a4)))) evda_nil)) (by show 2 ≤ 1000; decide)) (fitN od.ok)) (fun H5 H6 e5 t5 r6 => ?_)
  have st6 := (st4.exN LB e5 t5).drew r6
  have a6 := r6.dt (Dt.exN (exN_wo e5) a4)
  clear st4 a4 e5 t5 r6
  refine q_lamNe (x := (needD d2 (.str nm)).shown) st6.pot st6.tb (fun H7 e7 t7 pt7 Qx qx => tt_need rfl rfl rfl (st6.exN LB e7 t7).kp.ng.nd.ob rfl pt7 od.ok okn (fun E R h => del_bad (st6.exN LB e7 t7).kp.ng.nd (dt_wo (Dt.exN (exN_wo e7) a6)) (.str nm) od.ok okn (nd_odd1 (st6.exN LB e7 t7).kp.ng.nd.ok od.no) h) qx)
    (fun H7 H8 e7 t7 r8 => ev_reprD (evd_lst (evda_cons evd_str (evda_cons (evd_var rfl (dt_wo (r8.dt (Dt.exN (exN_wo e7) a6)))) (evda_cons (evd_var rfl (.str nm)) evda_nil))) (by show 3 ≤ 1000; decide)) (fitD od.ok okn)) (fun H7 H8 e7 t7 r8 => ?_)
  have st8 := (st6.exN LB e7 t7).drew r8
  have a8 := r8.dt (Dt.exN (exN_wo e7) a6)
  clear st6 a6 e7 t7 r8
  refine q_lamNe (x := (needD (.str nm) d2).shown) st8.pot st8.tb (fun H9 e9 t9 pt9 Qx qx => tt_need rfl rfl rfl (st8.exN LB e9 t9).kp.ng.nd.ob rfl pt9 okn od.ok (fun E R h => del_bad (st8.exN LB e9 t9).kp.ng.nd (.str nm) (dt_wo (Dt.exN (exN_wo e9) a8)) okn od.ok (nd_odd2 (st8.exN LB e9 t9).kp.ng.nd.ok od.no) h) qx)
    (fun H9 H10 e9 t9 r10 => ev_reprD (evd_lst (evda_cons evd_str (evda_cons (evd_var rfl (.str nm)) (evda_cons (evd_var rfl (dt_wo (r10.dt (Dt.exN (exN_wo e9) a8)))) evda_nil))) (by show 3 ≤ 1000; decide)) (fitD okn od.ok)) (fun H9 H10 e9 t9 r10 => ?_)
  have st10 := (st8.exN LB e9 t9).drew r10
  have a10 := r10.dt (Dt.exN (exN_wo e9) a8)
  clear st8 a8 e9 t9 r10
  -- the last name
  obtain ⟨la, hla, ela⟩ := atI_end LB.n0
  have lao := LB.nm la hla
  have okl := nameO lao
  refine q_asg (ev_op (ev_var rfl) (ev_un (z := .int (-1)) ev_c fun H1 e1 Q q => ⟨1, rfl, q H1 (Ex.refl H1)⟩) (rv_ixL (sq_of (st10.names LB)) ela)) fun H11 e11 => ?_
  have st11 := st10.ex e11
  have a11 := (Drew.of st10.pot e11).dt a10
  show tSeq _ _ _ [some (.ref p), some (.ref x), some (.ref lp), some (.ref ln), some (.str nm), some v2, some v3, some (.str la)] H11
  have last : ∀ {H12 : Hp}, St C HB H12 p x lp A' g ns ps [(P1, qOR), (P2, q2)] → Dt (wo p H12) v2 d2 → tRet (tOp rEqDt (tLst (tCons (tMeth C "targets" (spTargets C) [] E0 (tVar 1) (tCons (tVar 5) tNil)) (tCons (tMeth C "sources" (spSources C) [] E0 (tVar 1) (tCons (tVar 5) tNil)) (tCons (tMeth C "delete_all" (spDelAll C) [] E0 (tVar 1) (tCons (tVar 5) tNil)) tNil)))) (tLst (tCons (tLst tNil) (tCons (tLst tNil) (tCons (tC (.int 0)) tNil))))) { nx := fun _ H' => Q .non H', rt := Q } [some (.ref p), some (.ref x), some (.ref lp), some (.ref ln), some (.str nm), some v2, some v3, some (.str la)] H12 := by
    intro H12 st12 a12
    have nd := st12.kp.ng.nd
    have c1 := dt_wo a12
    have tg0 : tgD g d2 = [] := tg_other nd.ok od.no
    have sr0 : srcD g d2 = [] := by
      unfold srcD
      rw [List.filter_eq_nil_iff]
      intro s0 _
      rw [nd_odd2 nd.ok od.no]
      decide
    have m1 : EvD (tMeth C "delete_all" (spDelAll C) [] E0 (tVar 1) (tCons (tVar 5) tNil)) [some (.ref p), some (.ref x), some (.ref lp), some (.ref ln), some (.str nm), some v2, some v3, some (.str la)] H12 (.int 0) := fun H7 e7 Q' q' =>
      ⟨.ref x, rfl, x, A'.dx, _, rfl, e7 _ _ nd.ob, rfl, v2, rfl, x, v2, d2, A', ns, g, rfl, nd.ex e7, Dt.ex e7 c1, od.ok.sm, fun _ H8 e8 => q' _ H8 e8 (.int 0), fun s0 hs0 hne => by subst hs0; exact absurd tg0 hne⟩
    have m2 : EvD (tMeth C "targets" (spTargets C) [] E0 (tVar 1) (tCons (tVar 5) tNil)) [some (.ref p), some (.ref x), some (.ref lp), some (.ref ln), some (.str nm), some v2, some v3, some (.str la)] H12 (.list []) := fun H7 e7 Q' q' =>
      ⟨.ref x, rfl, x, A'.dx, _, rfl, e7 _ _ nd.ob, rfl, v2, rfl, x, v2, d2, A', ns, g, rfl, nd.ex e7, Dt.ex e7 c1, od.ok.sm, fun l H8 _ e8 hl => q' _ H8 e8 (.lst (by rw [tg0] at hl; exact hl) .nil)⟩
    have m3 : EvD (tMeth C "sources" (spSources C) [] E0 (tVar 1) (tCons (tVar 5) tNil)) [some (.ref p), some (.ref x), some (.ref lp), some (.ref ln), some (.str nm), some v2, some v3, some (.str la)] H12 (.list []) := fun H7 e7 Q' q' =>
      ⟨.ref x, rfl, x, A'.dx, _, rfl, e7 _ _ nd.ob, rfl, v2, rfl, x, v2, d2, A', ns, g, rfl, nd.ex e7, Dt.ex e7 c1, od.ok.sm, fun l H8 _ e8 hl => q' _ H8 e8 (.lst (by rw [sr0] at hl; exact hl) .nil)⟩
    exact s_ret (v := .bl true) (ev_is (ev_eqD (evd_lst (evda_cons m2 (evda_cons m3 (evda_cons m1 evda_nil))) (by show 3 ≤ 1000; decide)) (evd_lst (evda_cons (evd_lst evda_nil (by decide)) (evda_cons (evd_lst evda_nil (by decide)) (evda_cons evd_int evda_nil))) (by show 3 ≤ 1000; decide)) (by decide +kernel) (by decide +kernel)) (by decide +kernel)) fun H13 e13 => q H13 (st12.ex e13)
  have psn : ∀ q ∈ ps, isNameS q.1 = true ∧ isNameS q.2 = true := fun q hq => st11.kp.ng.nd.ok.name ((st11.kp.hm q).mpr hq)
  refine q_andRaw (et_is (et_notInL (d := pD (nm, la)) (evd_tup (evda_cons (evd_var rfl (.str nm)) (evda_cons (evd_var rfl (.str la)) evda_nil)) (by show 2 ≤ 1000; decide)) (evd_var rfl (dt_wo st11.kp.hp)) (pr_lay nmo lao) (prs_lay psn) (by show 1 ≤ 5; decide)) (congrArg not (any_pD ps (nm, la)))) (fun _ H12 e12 => last (st11.ex e12) ((Drew.of st11.pot e12).dt a11)) (fun hb H12 e12 R hR => ?_)
  have st12 := st11.ex e12
  have a12 := (Drew.of st11.pot e12).dt a11
  have nin : isNd g (.str nm) (.str la) = false := decide_eq_false fun m => by
    rw [decide_eq_true ((st12.kp.hm (nm, la)).mp m)] at hb
    cases hb
  exact r_lamNe (x := (needD (.str nm) (.str la)).shown) st12.pot st12.tb (fun H13 e13 t13 pt13 Qx qx => tt_need rfl rfl rfl (st12.exN LB e13 t13).kp.ng.nd.ob rfl pt13 okn okl (fun E R h => del_bad (st12.exN LB e13 t13).kp.ng.nd (.str nm) (.str la) okn okl nin h) qx)
    (fun H13 H14 e13 t13 r14 => ev_reprD (evd_lst (evda_cons evd_str (evda_cons (evd_var rfl (.str nm)) (evda_cons (evd_var rfl (.str la)) evda_nil))) (by show 3 ≤ 1000; decide)) (fitD okn okl)) (fun H13 H14 e13 t13 r14 => hR H14 (last ((st12.exN LB e13 t13).drew r14) (r14.dt (Dt.exN (exN_wo e13) a12))))
end
end Cr
/-! graphs compared by == and != -/
namespace Cr
open PySem PySem.Spec PyProof.Rows L2 Evl
structure HasEqN (P : Program) (w : World) (K : PySem.W.Frag) (mg : Str → Option Value) (base : Heap) (k : Nat) (C : Addr) : Prop where
  ex : ∃ f fd, FnOk P w K mg base CX0 k f fd ["self", "other"] (spNEq C) ∧ Binds K fd ["self", "other"] [] ∧ EqC K C f
theorem rv_graph {C p p2 : Addr} {H : Hp} {A A2 : NdA} {U U2 : List Str} {g g2 : List Row} (neg : Bool) (nd : NdAt C H p A U g) (nd2 : NdAt C H p2 A2 U2 g2) : RV (rOwn C neg (spNEq C) E0) (.ref p) (.ref p2) H (.bl (if neg then !eqG g g2 else eqG g g2)) := fun H1 e Q q =>
  .inl ⟨p, A.dx, _, rfl, e _ _ nd.ob, .inr ⟨p2, A2.dx, _, rfl, e _ _ nd2.ob⟩, p, .ref p2, A, U, g, rfl, nd.ex e, .inr ⟨p2, A2, U2, g2, rfl, nd2.ex e, fun H' e' => ⟨_, rfl, q H' e'⟩⟩⟩
end Cr
/-! k21: graphs made of pairs -/
namespace Cr
open PySem PySem.Spec PyProof.Rows L2 Evl
abbrev spOfR (C CN : Addr) : Sp := fun vs H Q E => ∃ v rest, vs = v :: rest ∧ rest.length ≤ 5 ∧ ∀ p, H p = none → spOf C CN 3 [v, .ref p] (upd H p (.tup rest)) Q E
abbrev tOf (C CN : Addr) (tA : TA) (E : XK) : TE := ClX.tCMeth C (spOfR C CN) E (tC (.ref C)) tA
/-- Needs.of at hand -/
structure OfAt (P : Program) (w : World) (K : PySem.W.Frag) (mg : Str → Option Value) (base : Heap) (k : Nat) (C CN : Addr) : Prop where
  ex : ∃ (mc : Value) (q f : Addr), ClX.CRead K C mc ∧ ClX.CMet K C mc "of" q f ∧ FnR P w K mg base (L2.CX P w) k f (spOfR C CN)
/-- the same but its tables, and a pot that may be drawn from -/
structure Rel (p : Addr) (H H' : Hp) : Prop where
  ext : LamX.ExtN (wo p H) (wo p H')
  pot : Pot H' p
theorem Rel.trans {p : Addr} {H H1 H2 : Hp} (a : Rel p H H1) (b : Rel p H1 H2) : Rel p H H2 := ⟨a.ext.trans b.ext, b.pot⟩
theorem Rel.ofDrew {p : Addr} {H H' : Hp} (r : Drew p H H') : Rel p H H' := ⟨LamX.ExtN.of r.ex, r.pot⟩
theorem Rel.ofN {p : Addr} {H H' : Hp} (pot : Pot H p) (e : LamX.ExtN H H') : Rel p H H' := ⟨exN_wo e, pot.exN e⟩
theorem Rel.at {p a : Addr} {H H' : Hp} {o : HO} (r : Rel p H H') (n : a ≠ p) (h : H a = some o) (nt : ∀ ps, o ≠ .tbl ps) : H' a = some o := (wo_some (r.ext a o (by rw [wo_ne n]; exact h) nt)).2
theorem Rel.dt {p : Addr} {H H' : Hp} {v : V} {d : PyData} (r : Rel p H H') (h : Dt (wo p H) v d) : Dt (wo p H') v d := Dt.exN r.ext h
theorem tnl {xs : List V} : ∀ ps, HO.tup xs ≠ .tbl ps := fun _ z => nomatch z
section
variable {C CN : Addr} {tA : TA} {σ : L2.St} {H : Hp} {Q : VK} {E : XK} {vs : List V} {good : List Pr} {U : List Str}
theorem raw_of (ha : ∀ R : List V → Hp → Prop, R vs H → tA σ H R) (hU : ∀ a ∈ U, isNameS a = true) (lU : U.length ≤ 62) (inU : ∀ q ∈ good, q.1 ∈ U ∧ q.2 ∈ U) (hl : vs.length = good.length) (l5 : vs.length ≤ 5)
    (hg : ∀ (j : Nat) (q : Pr), good[j]? = some q → ∃ T : Addr, vs[j]? = some (V.ref T) ∧ H T = some (.tup [.str q.1, .str q.2]))
    (k : ∀ x A g H', Ex H H' → NewG C H H' x A U g → (∀ q : Pr, q.2 ∈ tgS g q.1 ↔ q ∈ good) → Q (.ref x) H') : tOf C CN tA E σ H Q := by
  refine ⟨rfl, ha _ ⟨.ref C, vs, rfl, l5, fun p zp => ⟨p, vs, good, U, rfl, upd_same, hU, lU, inU, fun j q hj => ?_, .inl ⟨hl, fun x A g H' e ng hm => ?_⟩⟩⟩⟩
  · obtain ⟨T, h1, h2⟩ := hg j q hj
    exact ⟨T, h1, Ex.new zp _ _ h2⟩
  · have en := Ex.new (o := .tup vs) zp
    exact k x A g H' (en.trans e) ⟨ng.nd, fresh_back en ng.zx, fresh_back en ng.zd, fun r hr => fresh_back en (ng.za r hr)⟩ hm
theorem raw_pairs (ha : ∀ R : List V → Hp → Prop, R vs H → tA σ H R) (hU : ∀ a ∈ U, isNameS a = true) (lU : U.length ≤ 62) (inU : ∀ q ∈ good, q.1 ∈ U ∧ q.2 ∈ U) (hl : vs.length = good.length) (l5 : vs.length ≤ 5)
    (hg : ∀ (j : Nat) (q : Pr), good[j]? = some q → ∃ T : Addr, vs[j]? = some (V.ref T) ∧ H T = some (.tup [.str q.1, .str q.2]))
    (k : ∀ v g H', Ex H H' → GOk U g → (∀ q : Pr, q.2 ∈ tgS g q.1 ↔ q ∈ good) → Dt H' v (.list ((prs g).map pD)) → Q v H') : tMeth C "pairs" (spPairs C) [] E0 (tOf C CN tA E) tNil σ H Q := by
  show tOf C CN tA E σ H _
  exact raw_of ha hU lU inU hl l5 hg fun x A g H' e ng hm =>
    ⟨x, A.dx, _, rfl, ng.nd.ob, rfl, x, A, U, g, rfl, ng.nd, fun l xs H2 zl e2 hl hd => k (.ref l) g H2 (e.trans e2) ng.nd.ok hm (.lst hl (DtAll.ex (wo_ex l H2) hd))⟩
/-- a pair that is refused, behind good ones -/
theorem sp_bad {T : Addr} {v u : V} {d e : PyData} (hU : ∀ a ∈ U, isNameS a = true) (lU : U.length ≤ 62) (inU : ∀ q ∈ good, q.1 ∈ U ∧ q.2 ∈ U) (l5 : vs.length ≤ 5)
    (hg : ∀ (j : Nat) (q : Pr), good[j]? = some q → ∃ T : Addr, vs[j]? = some (V.ref T) ∧ H T = some (.tup [.str q.1, .str q.2])) (hx : vs[good.length]? = some (V.ref T)) (hT : H T = some (.tup [v, u])) (hd : Dt H v d) (he : Dt H u e) (o1 : OkO d) (o2 : OkO e) (bad : isName d = true → isName e = false)
    (h1 : isName d = false → ∀ dx H', Rsd1 H H' dx "value" d → E (.ref CN) (some dx) H') (h2 : isName d = true → ∀ dx H', Rsd1 H H' dx "value" e → E (.ref CN) (some dx) H') : spOfR C CN (.ref C :: vs) H Q E := by
  refine ⟨.ref C, vs, rfl, l5, fun p zp => ⟨p, vs, good, U, rfl, upd_same, hU, lU, inU, fun j q hj => ?_, .inr ⟨T, v, u, d, e, hx, Ex.new zp _ _ hT, Dt.ex (Ex.new zp) hd, Dt.ex (Ex.new zp) he, o1.sm, o2.sm, o1.cp, o2.cp, bad, fun n dx H' r => h1 n dx H' (r.back (Ex.new zp)), fun n dx H' r => h2 n dx H' (r.back (Ex.new zp))⟩⟩⟩
  obtain ⟨T, h1, h2⟩ := hg j q hj
  exact ⟨T, h1, Ex.new zp _ _ h2⟩
end
section
variable {X : Cx} {k : Nat} {C CN : Addr} {E : XK} {p1 : Pos}
theorem pe_of {pos apos : Pos} {e : Expr} {es : List Expr} {t : TA} {pl : Sem Bool} (N : NdC X.K X.mg C) (O : OfAt X.prog X.w X.K X.mg X.base k C CN) (hg : Gl X "Needs") (hr : Room k X.A) (hx : Passes (L2.CX X.prog X.w) X E) (ha : PA X (e :: es) t)
    (hst : starEach (e :: es) X.env = (false, eval e X.env) :: starEach es X.env := by rfl) (hpl : (backTo pos (starEach es X.env)).any (·.1) = false := by rfl)
    (ht : eval (.Call (.Attribute (.Name "Needs" p1) "of" apos) (e :: es) [] pos) X.env = (do
      let ov ← eval (.Name "Needs" p1) X.env
      standAt apos.atName
      let (f, first) ← holding [ov] (getMethod ov "of" pl)
      callWith pos f first (backTo pos (starEach (e :: es) X.env)) (backToKw pos (keywordEach [] X.env))) := by rfl) :
    PE X (.Call (.Attribute (.Name "Needs" p1) "of" apos) (e :: es) [] pos) (tOf C CN t E) := by
  obtain ⟨mc, q, f, r, c, F⟩ := O.ex
  exact ClX.pe_cmeth (pl := pl) (pe_glob (v := .ref C) hg N.at_ rfl) r c F hr hx ha hst hpl ht
theorem pe_of0 {pos apos : Pos} {pl : Sem Bool} (N : NdC X.K X.mg C) (O : OfAt X.prog X.w X.K X.mg X.base k C CN) (hg : Gl X "Needs") (hr : Room k X.A) (hx : Passes (L2.CX X.prog X.w) X E)
    (ht : eval (.Call (.Attribute (.Name "Needs" p1) "of" apos) [] [] pos) X.env = (do
      let ov ← eval (.Name "Needs" p1) X.env
      standAt apos.atName
      let (f, first) ← holding [ov] (getMethod ov "of" pl)
      callWith pos f first (backTo pos (starEach [] X.env)) (backToKw pos (keywordEach [] X.env))) := by rfl) :
    PE X (.Call (.Attribute (.Name "Needs" p1) "of" apos) [] [] pos) (tOf C CN tNil E) := by
  obtain ⟨mc, q, f, r, c, F⟩ := O.ex
  exact pe_cmeth0 (pl := pl) (pe_glob (v := .ref C) hg N.at_ rfl) r c F hr hx ht
end
end Cr
/-! k21: _law_made_right -/
namespace Cr
open PySem PySem.Spec PyProof.Rows L2 Evl
abbrev sMR : Stmt := topS 26
abbrev nMR : List Str := ["_law_pot_here", "_law_names", "_law_one", "_law_other", "_law_third", "_law_odd_here", "_law_left", "_law_told", "_law_due", "_law_time"]
theorem scMR : FnScope nMR ["_law_pot_here", "_law_names"] (defScope sMR) := ⟨rfl, rfl, rfl, by decide +kernel, rfl, by decide +kernel, by decide +kernel⟩
abbrev qMR : Str := ("_law_made_right" ++ ".<locals>.") ++ "<lambda>"
def spMadeR (T : TabL) : Sp := fun vs H Q _ => ∃ (p ln : Addr) (ns : List Str), vs = [.ref p, .ref ln] ∧ Pot H p ∧ LamX.Tabs T H ∧ H ln = some (.lst (ns.map V.str)) ∧ ln ≠ p ∧ 0 < ns.length ∧ ns.length ≤ 8 ∧ (∀ n ∈ ns, isNameS n = true) ∧ ∀ H', Rel p H H' → LamX.Tabs T H' → Q (.bl true) H'
theorem tt_of {C CN CD : Addr} {tA : TA} {σ : L2.St} {p : Addr} {H1 : Hp} {Qx : VK} {d : PyData} (ok : OkO d)
    (hs : ∀ E R, (∀ Hc, Drew p H1 Hc → ∀ dx H', Rsd1 Hc H' dx "value" d → E (.ref CN) (some dx) H') → tOf C CN tA E σ H1 R) (q : ∀ H2, Drew p H1 H2 → Qx (.str (nameD d).shown) H2) : TTErr CN CD (fun E H' Q' => tOf C CN tA E σ H' Q') H1 Qx := by
  intro E R hN hD
  refine hs E R fun Hc rc dx' H' r => ?_
  obtain ⟨w', hx, hw⟩ := r.at_
  exact hN dx' H' w' d ok hx hw fun H2 e2 => q H2 (rc.trans (Drew.of rc.pot (r.ex.trans e2)))
theorem three_shaped {q : Pr} {ps : List Pr} (h1 : isNameS q.1 = true ∧ isNameS q.2 = true) (h : ∀ p ∈ ps, isNameS p.1 = true ∧ isNameS p.2 = true) : SeqAt.shaped (.list [.list [], .list [pD q], .list (ps.map pD)]) = true := by
  have l1 : PyData.canLayAll0 [pD q] = true := prs_lay (ps := [q]) fun p hp => by rw [List.mem_singleton.mp hp]; exact h1
  have d1 : PyData.depthAll [pD q] ≤ 1 := prs_depth [q]
  have d2 := prs_depth ps
  unfold SeqAt.shaped
  rw [PyData.canLay0, PyData.canLayAll0, PyData.canLayAll0, PyData.canLayAll0, PyData.canLayAll0, PyData.canLay0, PyData.canLay0, PyData.canLay0, l1, prs_lay h]
  refine decide_eq_true ?_
  rw [PyData.depth, PyData.depthAll, PyData.depthAll, PyData.depthAll, PyData.depthAll, PyData.depth, PyData.depth, PyData.depth, PyData.depthAll]
  omega
theorem evd_sset {P : Program} {w : World} {te : TE} {σ : L2.St} {H : Hp} {ps cs : List Pr} (h : EvD te σ H (.list (ps.map pD))) (few : ps.length < 300) (hc : ∀ ms : List Pr, ms.Nodup → (∀ q, q ∈ ms ↔ q ∈ ps) → srtP ms = cs) : EvD (tCB (rSortSP P w) (tCons (tCB (rSetP P w) (tCons te tNil)) tNil)) σ H (.list (cs.map pD)) := fun H1 e1 Q q => h H1 e1 _ fun v H2 e2 hv => by
  obtain ⟨l, xs, rfl, hl, hx⟩ := dt_lst hv
  refine ⟨l, xs, ps, rfl, hl, hx, few, fun a M za hM nd mem => ⟨a, M, rfl, upd_same, fun q hq => Ex.new za _ _ (hM q hq), ?_, fun ys p zp hys => q (.ref p) _ ((e2.trans (Ex.new za)).trans (Ex.new zp)) (.lst upd_same (DtAll.ex (Ex.new zp) ?_))⟩⟩
  · have z := pigeonP nd fun q hq => (mem q).mp hq
    rw [List.length_map] at z
    omega
  · rw [hc _ nd mem] at hys
    exact hys
theorem prs_nil {U : List Str} {g : List Row} (ok : GOk U g) (hm : ∀ q : Pr, q.2 ∈ tgS g q.1 ↔ q ∈ ([] : List Pr)) : prs g = [] := by
  rw [← prs_srt ok List.nodup_nil hm]
  exact List.length_eq_zero_iff.mp (srtP_perm []).length_eq
theorem prs_one {U : List Str} {g : List Row} {q0 : Pr} (ok : GOk U g) (hm : ∀ q : Pr, q.2 ∈ tgS g q.1 ↔ q ∈ [q0]) : prs g = [q0] := by
  rw [← prs_srt ok (List.pairwise_singleton _ _) hm]
  exact List.perm_singleton.mp (srtP_perm [q0])
theorem q_orMut {t u : TT} {tw tz : TS} {D : Ends} {σ : L2.St} {H : Hp} (h : EvT t σ H false) (k : ∀ H1, Ex H H1 → ∀ R : Bool → Hp → Prop, (∀ H2, tz D σ H2 → R false H2) → u σ H1 R) : tSeq (tIfS (tOr t u) tw tNext) tz D σ H := h H (Ex.refl H) _ fun H1 e1 => k H1 e1 _ fun H2 z => z
section
variable {P : Program} {w : World} {K : PySem.W.Frag} {mg : Str → Option Value} {base : Heap}
theorem ok_madeR {f C CN CD CL CM CT g0 c P1 P2 : Addr} {cdg : Value} {fd : FuncData} {k : Nat} {q1 : Str} (F : FunC K "_law_made_right" "_law_made_right" sMR f fd (.ref c)) (B : Blt mg) (N : NdC K mg C) (Er : ErrQ K mg CN CD CL CM CT) (Tr : TryDef K mg g0 cdg) (TB : LamX.TabB base mg c P2) (ne : P1 ≠ P2)
    (h1 : Has P w K mg base (k + 2) "_law_choice" ["_law_pot_here", "_law_options"] spChoice) (h2 : Has P w K mg base k "_law_odd" ["_law_pot_here"] (spDrawn OddD)) (h3 : OfAt P w K mg base k C CN) (h5 : MkN P w K mg base (k + 1) C) (h7 : HasM P w K mg base CX0 (k + 2) C "pairs" ["self"] (spPairs C)) (hE : HasEqN P w K mg base (k + 1) C) :
    FnG P w K mg base CX0 (k + 2 + 1) f fd ["_law_pot_here", "_law_names"] (spMadeR [(P1, q1), (P2, qMR)]) := by
  obtain ⟨f1, d1, G1, b1, k1, g1⟩ := h1.ex
  obtain ⟨f2, d2, G2, b2, k2, g2⟩ := h2.ex
  obtain ⟨f5, d5, M5, G5, b5⟩ := h5.ex
  obtain ⟨f7, d7, G7, b7, m7⟩ := h7.ex
  obtain ⟨fE, dE, GE, bE, EQ⟩ := hE.ex
  obtain ⟨oc, od, an, kV, doc, pm, ct, osl, lk⟩ := Tr.lk
  refine okGC F scMR (fun vs H Q E h => by obtain ⟨_, _, _, rfl, _⟩ := h; rfl) (fun A outer s H vs Q E hq hr h => ?_)
  obtain ⟨p, ln, ns, rfl, pot, tb, hln, nl, n0, n8, nm, q⟩ := h
  have hr0 : Room k _ := hr.mono (by omega)
  have hr1 : Room (k + 1) _ := hr.mono (by omega)
  have lam : ∀ {body : Expr} {params : Arguments} {scope : Scope} {t : XK → TE} {p0 lpos pos : Pos}, LamX.LamS (defScope sMR) scope → defaultsOf params (envOfC "_law_made_right" (defScope sMR) s.heap.objs.size f (.ref c)) = ([], []) →
      (∀ (q : Str) (cl : List (Str × Addr)) (pm cv ctv : Value), bindArgs (PySem.W.kla_fn "<lambda>" q params body scope cl pm cv ctv) ⟨[], []⟩ = pure []) →
      (∀ (A2 : Around) (outer2 : List Env) (s2 : Shared) (H2 : Hp) (E2 : XK) (f2 c2 : Addr), Quiet A2 → Room k (A2.deeper (LamX.lamEnv (cxOf CX0 P w K mg base nMR "_law_made_right" (defScope sMR) f (.ref c) A outer s H E).nox scope s2.heap.objs.size f2 c2)) → PE (LamX.lamCx (cxOf CX0 P w K mg base nMR "_law_made_right" (defScope sMR) f (.ref c) A outer s H E).nox A2 outer2 s2 H2 E2 scope f2 c2) body (t E2)) →
      PE (cxOf CX0 P w K mg base nMR "_law_made_right" (defScope sMR) f (.ref c) A outer s H E).nox (.Call (.Name "_law_error" p0) [.Lambda params body scope lpos] [] pos) (LamX.tLam [(P1, q1), (P2, qMR)] (TTErr CN CD) t) := fun L hdef hbind hbody =>
    pe_lamS (X := (cxOf CX0 P w K mg base nMR "_law_made_right" (defScope sMR) f (.ref c) A outer s H E).nox) (k := k) (c := c) (P := P2) (Ng := nErr) (sg := defScope sErr) (bg := defBody sErr) (by rfl) Tr.gm Tr.kp lk Tr.cd (.all fun us hl => match us, hl with | [_], _ => rfl) scErr rfl (.inl rfl) (err_gives B Er hq) TB rfl (List.mem_cons_of_mem _ List.mem_cons_self)
      (fun z hz e => by
        rcases List.mem_cons.mp hz with rfl | hz
        · exact absurd e ne
        · have e2 := List.mem_singleton.mp hz
          subst e2
          rfl) hq hr L hdef hbind hbody
  refine ⟨_, pss_cons (ps_asg (pe_lc (own := [("_law_time", 9)]) (g := gName 9) (tt := tYes) (te := tTup (tCons (tCall spChoice [] E0 (tCons (tVar 0) (tCons (tVar 1) tNil))) (tCons (tCall spChoice [] E0 (tCons (tVar 0) (tCons (tVar 1) tNil))) tNil))) rfl scMR.nd (pi_range1 (by rfl) B.range (pa_cons pe_int pa_nil)) (blkOk_by (own := [("_law_time", 9)]) (N := nMR) (sc := defScope sMR) (by decide +kernel))
        (fun _ _ _ _ _ => pg_name (i := 9) scMR.nd rfl (Or.inl rfl)) (fun _ _ _ _ _ => pts_nil) (fun _ _ _ _ _ => by exact pe_tup (pa_cons (callG (E := E0) G1 hq hr (by rfl) g1 k1 b1 .nil pass0 (pa_cons (pv 0) (pa_cons (pv 1) pa_nil))) (pa_cons (callG (E := E0) G1 hq hr (by rfl) g1 k1 b1 .nil pass0 (pa_cons (pv 0) (pa_cons (pv 1) pa_nil))) pa_nil))))
      (pg_lst rfl (pgs_cons (pg_name (i := 2) scMR.nd rfl (.inr rfl)) (pgs_cons (pg_name (i := 3) scMR.nd rfl (.inr rfl)) (pgs_cons (pg_name (i := 4) scMR.nd rfl (.inl rfl)) pgs_nil)))))
    (pss_cons (ps_asg (pe_tup (pa_cons (callG (E := E0) G2 hq hr0 (by rfl) g2 k2 b2 .nil pass0 (pa_cons (pv 0) pa_nil)) (pa_cons (callG (E := E0) G1 hq hr (by rfl) g1 k1 b1 .nil pass0 (pa_cons (pv 0) (pa_cons (pv 1) pa_nil))) pa_nil))) (pg_tup rfl (pgs_cons (pg_name (i := 5) scMR.nd rfl (.inr rfl)) (pgs_cons (pg_name (i := 6) scMR.nd rfl (.inr rfl)) pgs_nil))))
    (pss_cons (ps_set (i := 7) scMR.nd rfl (.inl rfl) (pe_lst (pa_cons (pe_meth0 (E := E0) (pe_of0 (E := E0) N h3 (by rfl) hr0 passL) N.cl m7 G7 hr b7 .nil pass0) (pa_cons (pe_meth0 (E := E0) (pe_of (E := E0) N h3 (by rfl) hr0 passL (pa_cons (pv 2) pa_nil)) N.cl m7 G7 hr b7 .nil pass0) (pa_cons (pe_meth0 (E := E0) (pe_of (E := E0) N h3 (by rfl) hr0 passL (pa_cons (pv 2) (pa_cons (pv 3) (pa_cons (pv 2) (pa_cons (pv 4) pa_nil))))) N.cl m7 G7 hr b7 .nil pass0) pa_nil)))))
    (pss_cons (ps_if (PW.pt (pw_or (pt_cmpR (op_neDt hr.units) (pv 7) (pe_lst (pa_cons (pe_lst pa_nil) (pa_cons (pe_lst (pa_cons (pv 2) pa_nil)) (pa_cons (pe_callB (cr_sortSP (by rfl) hr.units) (by rfl) B.sorted bSorted (pa_cons (pe_callTy (cr_setP (by rfl) hr.units) (by rfl) B.set bSet (pa_cons (pe_lst (pa_cons (pv 2) (pa_cons (pv 3) (pa_cons (pv 4) pa_nil)))) pa_nil)) pa_nil)) pa_nil)))) (nomark _)) (pw_or1 (pt_cmpR (op_ownNe (E := E0) EQ GE bE pass0 hr) (pe_of0 (E := E0) N h3 (by rfl) hr0 passL) (pe_make0 (E := E0) M5 G5 hr (by rfl) N.at_ b5 .nil pass0) (nomark _))))) (pss_one (ps_ret pe_bl)) pss_nil)
    (pss_cons (ps_set (i := 8) scMR.nd rfl (.inl rfl) (pe_callB (call_reprG hq hr.units) (by rfl) B.repr bRepr (pa_cons (pe_lst (pa_cons pe_str (pa_cons (pv 5) pa_nil))) pa_nil)))
    (pss_cons (ps_if (pt_cmpR op_ne (lam (t := tOf C CN (tCons (tVar 2) (tCons (tTup (tCons (tVar 6) (tCons (tVar 5) tNil))) (tCons (tTup (tCons (tC .non) (tCons (tVar 3) tNil))) tNil)))) (LamX.lamS_by (by decide +kernel)) rfl (fun _ _ _ _ _ => rfl) (fun A2 outer2 s2 H2 E2 f2 c2 hq2 hr2 => by exact pe_of (E := E2) N h3 (by rfl) hr2 (passes_call (takes_of rfl rfl rfl rfl) fun _ _ _ _ h => h) (pa_cons (pv 2) (pa_cons (pe_tup (pa_cons (pv 6) (pa_cons (pv 5) pa_nil))) (pa_cons (pe_tup (pa_cons pe_non (pa_cons (pv 3) pa_nil))) pa_nil))))) (pv 8) (nomark _)) (pss_one (ps_ret pe_bl)) pss_nil)
    (pss_one (ps_ret (pe_cmpR op_eq (lam (t := tOf C CN (tCons (tTup (tCons (tVar 5) (tCons (tCall (spDrawn OddD) [] E0 (tCons (tVar 0) tNil)) tNil))) (tCons (tVar 2) tNil))) (LamX.lamS_by (by decide +kernel)) rfl (fun _ _ _ _ _ => rfl) (fun A2 outer2 s2 H2 E2 f2' c2 hq2 hr2 => by exact pe_of (E := E2) N h3 (by rfl) hr2 (passes_call (takes_of rfl rfl rfl rfl) fun _ _ _ _ h => h) (pa_cons (pe_tup (pa_cons (pv 5) (pa_cons (callG (E := E0) G2 hq2 hr2 (by rfl) g2 k2 b2 .nil pass0 (pa_cons (pv 0) pa_nil)) pa_nil))) (pa_cons (pv 2) pa_nil)))) (pv 8) (nomark _))))))))), ?_⟩
  have HD0 : ∀ {Hc : Hp} {Dl : Addr}, Pot Hc p → Hc Dl = none → Dl ≠ p := fun pt hD e => by
    obtain ⟨i, j, hp, _⟩ := pt
    rw [e, hp] at hD
    cases hD
  have l62 : ns.length ≤ 62 := by omega
  refine q_asgG ⟨3, rfl, by decide, by decide, fun Dl hD => ?_⟩
  have Dn := HD0 pot hD
  refine lc_range (lo := 0) (n := 3) (fun i H3 => ∃ qs : List Pr, qs.length = i ∧ (∀ q ∈ qs, q.1 ∈ ns ∧ q.2 ∈ ns) ∧ Dt (wo p H3) (.ref Dl) (.list (qs.map pD)) ∧ Drew p H H3) ⟨[], rfl, by simp, .lst (by rw [wo_ne Dn, upd_same]) .nil, (Drew.refl pot).mut hD Dn⟩ (fun i H3 hi hP => ?_) (fun H3 hP => ?_)
  · obtain ⟨qs, hl, hin, hd, dr⟩ := hP
    refine ⟨rfl, ?_⟩
    unfold tYes
    dsimp only
    rw [if_pos rfl]
    refine (evp_tup (evpa_cons (evp_names nl (dr.at nl hln) n0 (by omega) rfl rfl) (evpa_cons (evp_names nl (dr.at nl hln) n0 (by omega) rfl rfl) evpa_nil)) (fun ds ⟨d, es, e1, _, e, es2, e2, _, e3⟩ => by subst e1 e2 e3; show 2 ≤ 1000; decide)) H3 (Drew.refl dr.pot) _ fun v d H4 r4 hs hv => ?_
    obtain ⟨ds, rfl, dn, es, rfl, ⟨a, ha, rfl⟩, dm, es2, rfl, ⟨b, hb, rfl⟩, rfl⟩ := hs
    obtain ⟨T, rfl, hT⟩ := pD_refB (q := (a, b)) hv
    obtain ⟨_, xs, e', hx, hxs⟩ := dt_lst hd
    cases e'
    have hx4 := r4.at Dn (wo_some hx).2
    have lxs := dtAll_len hxs
    rw [List.length_map] at lxs
    refine ⟨xs, hx4, sz_lt (by omega), qs ++ [(a, b)], by rw [List.length_append, hl]; rfl, fun q hq => ?_, app_pD (r4.dts hxs) hx4 (Ex.refl H4) (wo_some hT).2 (wo_some hT).1 Dn, (dr.trans r4).mut hD Dn⟩
    rcases List.mem_append.mp hq with hq | hq
    · exact hin q hq
    · rw [List.mem_singleton.mp hq]
      exact ⟨ha, hb⟩
  obtain ⟨qs, l3, hin, hd, dr⟩ := hP
  obtain ⟨a1, a2, a3, rfl⟩ : ∃ a b c, qs = [a, b, c] := match qs, l3 with | [a, b, c], _ => ⟨a, b, c, rfl⟩
  obtain ⟨_, xs, e', hx, hxs⟩ := dt_lst hd
  cases e'
  cases hxs with
  | @cons v1 _ _ _ w1 hxs =>
  cases hxs with
  | @cons v2 _ _ _ w2 hxs =>
  cases hxs with
  | @cons v3 _ _ _ w3 hxs =>
  cases hxs
  obtain ⟨T1, rfl, y1⟩ := pD_refB w1
  obtain ⟨T2, rfl, y2⟩ := pD_refB w2
  obtain ⟨T3, rfl, y3⟩ := pD_refB w3
  obtain ⟨n1, y1⟩ := wo_some y1
  obtain ⟨n2, y2⟩ := wo_some y2
  obtain ⟨n3, y3⟩ := wo_some y3
  obtain ⟨_, hx⟩ := wo_some hx
  refine ⟨Dl, _, rfl, sq_of hx, rfl, .ref T1, _, rfl, .ref T2, _, rfl, .ref T3, _, rfl, rfl, ?_⟩
  show tSeq _ _ _ [some (.ref p), some (.ref ln), some (.ref T1), some (.ref T2), some (.ref T3), none, none, none, none, none] H3
  have i1 := hin a1 (by simp)
  have i2 := hin a2 (by simp)
  have i3 := hin a3 (by simp)
  have rl3 := Rel.ofDrew dr
  have tb3 := tabs_drew tb pot dr
  clear hD hd hx
  -- an odd value and a name
  refine q_asgPG (p := p) (evp_tup (evpa_cons (evp_drawn (S := OddD) rfl) (evpa_cons (evp_names nl (dr.at nl hln) n0 (by omega) rfl rfl) evpa_nil)) (fun ds ⟨d, es, e1, _, e, es2, e2, _, e3⟩ => by subst e1 e2 e3; show 2 ≤ 1000; decide)) dr.pot fun v d H4 r4 hs hv => ?_
  obtain ⟨ds, rfl, d5, es, rfl, od, dl, es2, rfl, ⟨lf, hlf, rfl⟩, rfl⟩ := hs
  cases hv with
  | @tup T _ _ hT hv =>
  cases hv with
  | @cons v5 _ _ _ hv5 hv =>
  cases hv with
  | @cons va _ _ _ hva hv =>
  cases hva
  cases hv
  refine ⟨T, _, rfl, st_of (wo_some hT).2, rfl, v5, _, rfl, .str lf, _, rfl, rfl, ?_⟩
  show tSeq _ _ _ [some (.ref p), some (.ref ln), some (.ref T1), some (.ref T2), some (.ref T3), some v5, some (.str lf), none, none, none] H4
  have z1 := r4.at n1 y1
  have z2 := r4.at n2 y2
  have z3 := r4.at n3 y3
  have rl4 := rl3.trans (Rel.ofDrew r4)
  have tb4 := tabs_drew tb3 dr.pot r4
  clear y1 y2 y3
  -- three graphs
  refine q_asgAny ?_
  refine raw_pairs (C := C) (CN := CN) (E := E0) (vs := []) (good := []) (U := ns) (fun R r => r) nm l62 (by simp) rfl (by decide) (by simp) fun va ga H5 e5 oka hma hva => ?_
  refine raw_pairs (C := C) (CN := CN) (E := E0) (vs := [.ref T1]) (good := [a1]) (U := ns) (fun R r => ⟨_, rfl, r⟩) nm l62 (fun q hq => by rw [List.mem_singleton.mp hq]; exact i1) rfl (by show 1 ≤ 5; decide) (fun j q hj => match j, hj with
    | 0, hj => ⟨T1, rfl, by cases hj; exact e5 _ _ z1⟩
    | j + 1, hj => by simp at hj) fun vb gb H6 e6 okb hmb hvb => ?_
  have e46 := e5.trans e6
  refine raw_pairs (C := C) (CN := CN) (E := E0) (vs := [.ref T1, .ref T2, .ref T1, .ref T3]) (good := [a1, a2, a1, a3]) (U := ns) (fun R r => ⟨_, rfl, _, rfl, _, rfl, _, rfl, r⟩) nm l62 (fun q hq => by
    simp only [List.mem_cons, List.not_mem_nil, or_false] at hq
    rcases hq with rfl | rfl | rfl | rfl
    · exact i1
    · exact i2
    · exact i1
    · exact i3) rfl (by show 4 ≤ 5; decide) (fun j q hj => match j, hj with
    | 0, hj => ⟨T1, rfl, by cases hj; exact e46 _ _ z1⟩
    | 1, hj => ⟨T2, rfl, by cases hj; exact e46 _ _ z2⟩
    | 2, hj => ⟨T1, rfl, by cases hj; exact e46 _ _ z1⟩
    | 3, hj => ⟨T3, rfl, by cases hj; exact e46 _ _ z3⟩
    | j + 4, hj => by simp at hj) fun vc gc H7 e7 okc hmc hvc => ?_
  refine ⟨by show 3 ≤ sizeLine; decide, fun L zL => ?_⟩
  have e47 := e46.trans e7
  have e48 := e47.trans (Ex.new (o := .lst [va, vb, vc]) zL)
  rw [prs_nil oka hma] at hva
  rw [prs_one okb hmb] at hvb
  have h7 : Dt (upd H7 L (.lst [va, vb, vc])) (.ref L) (.list [.list [], .list [pD a1], .list ((prs gc).map pD)]) := .lst upd_same (.cons (Dt.ex ((e6.trans e7).trans (Ex.new zL)) hva) (.cons (Dt.ex (e7.trans (Ex.new zL)) hvb) (.cons (Dt.ex (Ex.new zL) hvc) .nil)))
  generalize upd H7 L (.lst [va, vb, vc]) = H8 at h7 e48
  clear e5 e6 e7 e46 e47 hva hvb hvc
  show tSeq _ _ _ [some (.ref p), some (.ref ln), some (.ref T1), some (.ref T2), some (.ref T3), some v5, some (.str lf), some (.ref L), none, none] H8
  have pt8 := r4.pot.ex e48
  have nmA : ∀ q : Pr, q.1 ∈ ns ∧ q.2 ∈ ns → isNameS q.1 = true ∧ isNameS q.2 = true := fun q hq => ⟨nm _ hq.1, nm _ hq.2⟩
  have sh := three_shaped (q := a1) (ps := prs gc) (nmA a1 i1) fun q hq => okc.name ((mem_prs okc).mp hq)
  have eT : ∀ {T' : Addr} {q : Pr} {i : Nat} {Hc : Hp} {σ : L2.St}, Hc T' = some (.tup [.str q.1, .str q.2]) → σ[i]? = some (some (.ref T')) → EvD (tVar i) σ Hc (pD q) := fun h hs => evd_var hs (pD_dt h)
  refine q_orMut (et_is (et_neD (evd_var rfl h7) (evd_lst (evda_cons (evd_lst evda_nil (by decide)) (evda_cons (evd_lst (evda_cons (eT (e48 _ _ z1) rfl) evda_nil) (by show 1 ≤ 1000; decide)) (evda_cons (evd_sset (ps := [a1, a2, a3]) (cs := prs gc) (evd_lst (evda_cons (eT (e48 _ _ z1) rfl) (evda_cons (eT (e48 _ _ z2) rfl) (evda_cons (eT (e48 _ _ z3) rfl) evda_nil))) (by show 3 ≤ 1000; decide)) (by show 3 < 300; decide) (fun ms nd mem => prs_srt okc nd fun q => (hmc q).trans (Iff.trans ?_ (mem q).symm))) evda_nil))) (by show 3 ≤ 1000; decide)) sh sh) (by rw [SeqAt.eqv_refl _ (SeqAt.canLay_of_shaped sh)]; rfl)) (fun H9 e9 R hR => ?_)
  · simp only [List.mem_cons, List.not_mem_nil, or_false]
    constructor
    · rintro (h | h | h | h)
      · exact .inl h
      · exact .inr (.inl h)
      · exact .inl h
      · exact .inr (.inr h)
    · rintro (h | h | h)
      · exact .inl h
      · exact .inr (.inl h)
      · exact .inr (.inr (.inr h))
  refine raw_of (C := C) (CN := CN) (E := E0) (vs := []) (good := []) (U := ns) (fun R r => r) nm l62 (by simp) rfl (by decide) (by simp) fun xa Aa ga2 H10 e10 nga hma2 => ?_
  refine fun x dx zx zdx nxd => ⟨x, dx, rfl, upd_same, fun dd H11 zdd ndx eH11 => ⟨rfl, ?_⟩⟩
  obtain ⟨A', e11, ng11⟩ : ∃ A', Ex H10 H11 ∧ NewG C H10 H11 x A' ns [] := by
    have := new_of (C := C) (U := ns) (H := H10) (Q := fun v H' => v = .ref x → ∃ A', Ex H10 H' ∧ NewG C H10 H' x A' ns []) nm l62 (fun y A' H' e' n' ey => by cases ey; exact ⟨A', e', n'⟩) zx zdx nxd zdd ndx eH11
    exact this rfl
  clear eH11
  refine rv_graph true (nga.nd.ex e11) ng11.nd H11 (Ex.refl H11) _ fun H12 e12 => ⟨false, ?_, hR H12 ?_⟩
  · have e0 : eqG ga2 [] = true := (eqG_iff nga.nd.ok ng11.nd.ok).mpr fun s t => (hma2 (s, t)).trans ⟨fun h => (nomatch h), fun h => (nomatch h)⟩
    show V.bl (!eqG ga2 []) = V.bl false
    rw [e0]
    rfl
  have e412 := e48.trans (e9.trans (e10.trans (e11.trans e12)))
  have rl12 := rl4.trans (Rel.ofDrew (Drew.of r4.pot e412))
  have tb12 := tb4.ext e412
  have pt12 := r4.pot.ex e412
  have a12 : Dt (wo p H12) v5 d5 := (Drew.of r4.pot e412).dt hv5
  have k1 := e412 _ _ z1
  have k2 := e412 _ _ z2
  clear e48 e9 e10 e11 e12 h7 nga ng11 hR pt8 tb4 tb3 rl4 rl3 hv5
  show tSeq _ _ _ [some (.ref p), some (.ref ln), some (.ref T1), some (.ref T2), some (.ref T3), some v5, some (.str lf), some (.ref L), none, none] H12
  -- what is due
  refine q_asg (ev_reprD (evd_lst (evda_cons evd_str (evda_cons (evd_var rfl (dt_wo a12)) evda_nil)) (by show 2 ≤ 1000; decide)) (fitN od.ok)) fun H13 e13 => ?_
  have rl13 := rl12.trans (Rel.ofDrew (Drew.of pt12 e13))
  have tb13 := tb12.ext e13
  have pt13 := pt12.ex e13
  have a13 := (Drew.of pt12 e13).dt a12
  have j1 := e13 _ _ k1
  have j2 := e13 _ _ k2
  have okn := nameO (nm lf hlf)
  have ok2 : isNameS lf = true := nm lf hlf
  show tSeq _ _ _ [some (.ref p), some (.ref ln), some (.ref T1), some (.ref T2), some (.ref T3), some v5, some (.str lf), some (.ref L), some (.str (nameD d5).shown), none] H13
  have k4 : OkO .none := ⟨⟨by decide +kernel, by decide +kernel, by decide +kernel, by decide +kernel⟩, ⟨by decide +kernel, by decide +kernel⟩, by decide +kernel⟩
  refine q_lamNe (x := (nameD d5).shown) pt13 tb13 (fun H14 e14 t14 pt14 Qx qx => tt_of (C := C) od.ok (fun E R h => ?_) qx) (fun H14 H15 e14 t14 r15 => ev_var rfl) (fun H14 H15 e14 t14 r15 => ?_)
  · refine ⟨rfl, .ref T1, rfl, .str lf, rfl, v5, rfl, by show 2 ≤ sizeLine; decide, fun U1 zU1 => ⟨.ref T2, rfl, by show 2 ≤ sizeLine; decide, fun U2 zU2 => ?_⟩⟩
    have en := (Ex.new (o := .tup [.str lf, v5]) zU1).trans (Ex.new (o := .tup [.non, .ref T2]) zU2)
    exact sp_bad (C := C) (CN := CN) (good := [a1]) (U := ns) (T := U1) (v := .str lf) (u := v5) (d := .str lf) (e := d5) nm l62 (fun q hq => by rw [List.mem_singleton.mp hq]; exact i1) (by show 3 ≤ 5; decide) (fun j q hj => match j, hj with
      | 0, hj => ⟨T1, rfl, by cases hj; exact en _ _ (e14 _ _ j1 tnl)⟩
      | j + 1, hj => by simp at hj) rfl (Ex.new zU2 _ _ upd_same) (.str lf) (Dt.ex en (dt_wo (Dt.exN (exN_wo e14) a13))) okn od.ok (fun _ => od.no) (fun n => by rw [show isName (.str lf) = true from ok2] at n; cases n) (fun _ dx H' r => h _ (Drew.of pt14 en) dx H' r)
  have rl15 := (rl13.trans (Rel.ofN pt13 e14)).trans (Rel.ofDrew r15)
  have tb15 := tabs_drew t14 (pt13.exN e14) r15
  have a15 := r15.dt (Dt.exN (exN_wo e14) a13)
  have j15 := r15.at n1 (e14 _ _ j1 tnl)
  refine s_lamEq (x := (nameD d5).shown) r15.pot tb15 (fun H16 e16 t16 pt16 Qx qx => tt_of (C := C) od.ok (fun E R h => ?_) qx) (fun H16 H17 e16 t16 r17 => ev_var rfl) (fun H16 H17 e16 t16 r17 => q H17 ((rl15.trans (Rel.ofN r15.pot e16)).trans (Rel.ofDrew r17)) (tabs_drew t16 (r15.pot.exN e16) r17))
  refine ⟨rfl, v5, rfl, (evp_drawn (S := OddD) (E := E0) rfl) H16 (Drew.refl pt16) _ fun v6 d6 H17 r17 od6 hv6 => ⟨by show 2 ≤ sizeLine; decide, fun U1 zU1 => ⟨.ref T1, rfl, ?_⟩⟩⟩
  have en := Ex.new (o := .tup [v5, v6]) zU1
  exact sp_bad (C := C) (CN := CN) (good := []) (U := ns) (T := U1) (v := v5) (u := v6) (d := d5) (e := d6) nm l62 (by simp) (by show 2 ≤ 5; decide) (by simp) rfl upd_same (Dt.ex en (dt_wo (r17.dt (Dt.exN (exN_wo e16) a15)))) (Dt.ex en (dt_wo hv6)) od.ok od6.ok (fun n => by rw [od.no] at n; cases n) (fun _ dx H' r => h _ (r17.trans (Drew.of r17.pot en)) dx H' r) (fun n => by rw [od.no] at n; cases n)
end
end Cr
/-! k21: one deed -/
namespace Cr
open PySem PySem.Spec PyProof.Rows L2 Evl
abbrev sDR : Stmt := topS 27
abbrev nDR : List Str := ["_law_pot_here", "_law_made", "_law_rows", "_law_names", "_law_way", "_law_one", "_law_other", "_law_is_new", "_law_due", "_law_pair", "_law_number"]
theorem scDR : FnScope nDR ["_law_pot_here", "_law_made", "_law_rows", "_law_names"] (defScope sDR) := ⟨rfl, rfl, rfl, by decide +kernel, rfl, by decide +kernel, by decide +kernel⟩
def spDeed (C : Addr) (T : TabL) : Sp := fun vs H Q _ => ∃ (p x lp ln : Addr) (HB : Hp) (A : NdA) (g : List Row) (ns : List Str) (ps : List Pr), vs = [.ref p, .ref x, .ref lp, .ref ln] ∧ LawB HB p ln ns ∧ St C HB H p x lp A g ns ps T ∧ ∀ H' g' ps', St C HB H' p x lp A g' ns ps' T → Q (.bl true) H'
theorem ev_notInL {ta tb : TE} {σ : L2.St} {H : Hp} {d : PyData} {ds : List PyData} (h1 : EvD ta σ H d) (h2 : EvD tb σ H (.list ds)) (s1 : d.canLay0 = true) (s2 : PyData.canLayAll0 ds = true) (dp : d.depth ≤ 5) : Ev (tOp (rInLDt true) ta tb) σ H (.bl (!ds.any fun z => PyData.eqv z d)) := fun H1 e1 Q q =>
  h1 H1 e1 _ fun v H2 e2 hv => h2 H2 (e1.trans e2) _ fun u H3 e3 hu => ⟨d, ds, Dt.ex e3 hv, hu, s1, s2, dp, q H3 (e2.trans e3)⟩
theorem fits_num {n : Nat} (h : n ≤ 1000) : Fits (.int (n : Int)) := (sz_int (b := 0) (m := 0) (Nat.le_trans (by omega : _ ≤ 1000) (by decide))).fits (by decide) (by decide)
section
variable {C : Addr} {HB H H' : Hp} {p x lp : Addr} {A : NdA} {g g' : List Row} {ns : List Str} {ps ps0 : List Pr} {T : TabL}
/-- the graph changes: its tables stay -/
theorem tabs_chg {l : List Addr} (nd : NdAt C H x A ns g) (t : LamX.Tabs T H) (b : But l H H') (hl : ∀ a ∈ l, a = A.dd ∨ ∃ r ∈ g, a = r.a) : LamX.Tabs T H' := tabs_but t b fun a ha => by
  rcases hl a ha with rfl | ⟨r, hr, rfl⟩
  · exact .inr ⟨_, nd.di⟩
  · exact .inl ⟨_, nd.ls r hr⟩
theorem tabs_put {xs ys : List V} (t : LamX.Tabs T H) (h : H lp = some (.lst ys)) : LamX.Tabs T (upd H lp (.lst xs)) := tabs_but (l := [lp]) t (fun a o n z => by rw [upd_ne (fun e => n (List.mem_singleton.mpr e))]; exact z) fun a ha => by
  rw [List.mem_singleton.mp ha]
  exact .inl ⟨_, h⟩
end
section
variable {P : Program} {w : World} {K : PySem.W.Frag} {mg : Str → Option Value} {base : Heap}
theorem ok_deed {f C CN CD : Addr} {fd : FuncData} {k : Nat} {T : TabL} (F : Fun K "_law_deed_right" "_law_deed_right" sDR f fd) (B : Blt mg) (N : NdC K mg C)
    (h1 : Has P w K mg base k "_law_draw" ["_law_pot_here", "_law_bound"] spDraw) (h2 : Has P w K mg base k "_law_choice" ["_law_pot_here", "_law_options"] spChoice) (h3 : Has P w K mg base k "_law_odd_right" ["_law_pot_here", "_law_made", "_law_rows", "_law_names"] (spOddR C T))
    (h6 : HasM P w K mg base (L2.CX P w) k C "record" ["self", "source", "target"] (spRecord C CN 3)) (h8 : HasM P w K mg base CX0 k C "delete_all" ["self", "source"] (spDelAll C)) (h9 : HasM P w K mg base (L2.CX P w) k C "delete" ["self", "source", "target"] (spDel C CD 3)) :
    FnG P w K mg base CX0 (k + 1) f fd ["_law_pot_here", "_law_made", "_law_rows", "_law_names"] (spDeed C T) := by
  obtain ⟨f1, d1, G1, b1, k1, g1⟩ := h1.ex
  obtain ⟨f2, d2, G2, b2, k2, g2⟩ := h2.ex
  obtain ⟨f3, d3, G3, b3, k3, g3⟩ := h3.ex
  obtain ⟨f6, d6, G6, b6, m6⟩ := h6.ex
  obtain ⟨f8, d8, G8, b8, m8⟩ := h8.ex
  obtain ⟨f9, d9, G9, b9, m9⟩ := h9.ex
  refine okG F scDR (fun vs H Q E h => by obtain ⟨_, _, _, _, _, _, _, _, _, rfl, _⟩ := h; rfl) (fun cdv A outer s H vs Q E hq hr h => ?_)
  obtain ⟨p, x, lr, ln, HB, A', g, ns, ps, rfl, LB, st, q⟩ := h
  refine ⟨_, pss_cons (ps_asg (pe_tup (pa_cons (callG (E := E0) G1 hq hr (by rfl) g1 k1 b1 .nil pass0 (pa_cons (pv 0) (pa_cons pe_int pa_nil))) (pa_cons (callG (E := E0) G2 hq hr (by rfl) g2 k2 b2 .nil pass0 (pa_cons (pv 0) (pa_cons (pv 3) pa_nil))) (pa_cons (callG (E := E0) G2 hq hr (by rfl) g2 k2 b2 .nil pass0 (pa_cons (pv 0) (pa_cons (pv 3) pa_nil))) pa_nil))))
        (pg_tup rfl (pgs_cons (pg_name (i := 4) scDR.nd rfl (.inl rfl)) (pgs_cons (pg_name (i := 5) scDR.nd rfl (.inr rfl)) (pgs_cons (pg_name (i := 6) scDR.nd rfl (.inl rfl)) pgs_nil)))))
    (pss_cons (ps_if (pt_cmpR op_lt (pv 4) pe_int (nomark _))
      (pss_cons (ps_set (i := 7) scDR.nd rfl (.inl rfl) (pe_meth (E := E0) (pv 1) N.cl m6 G6 hr b6 .nil passL (pa_cons (pv 5) (pa_cons (pv 6) pa_nil))))
      (pss_cons (ps_set (i := 8) scDR.nd rfl (.inl rfl) (pe_cmpR (op_notInLDt hr.units) (pe_tup (pa_cons (pv 5) (pa_cons (pv 6) pa_nil))) (pv 2) (by rfl)))
      (pss_cons (ps_expr (pe_bm PySem.F.plainAttrs_list PySem.F.slot_list_extend PySem.F.type_list_extend mt_extend (pv 2) (pa_cons (pe_op op_rep (pe_lst (pa_cons (pe_tup (pa_cons (pv 5) (pa_cons (pv 6) pa_nil))) pa_nil)) (pe_callTy call_int1 (by rfl) B.int bInt (pa_cons (pv 8) pa_nil))) pa_nil)))
      (pss_one (ps_ret (pe_cmpR op_eq (pe_callB (call_reprG hq hr.units) (by rfl) B.repr bRepr (pa_cons (pv 7) pa_nil)) (pe_callB (call_reprG hq hr.units) (by rfl) B.repr bRepr (pa_cons (pv 8) pa_nil)) (nomark _))))))) pss_nil)
    (pss_cons (ps_if (PW.pt (pw_and (pt_cmpR op_lt (pv 4) pe_int (nomark _)) (pw_and1 (pt_cmpR (op_neDt hr.units) (pv 2) (pe_lst pa_nil) (nomark _)))))
      (pss_cons (ps_set (i := 9) scDR.nd rfl (.inl rfl) (pe_bm PySem.F.plainAttrs_list PySem.F.slot_list_pop PySem.F.type_list_pop mt_popAt (pv 2) (pa_cons (callG (E := E0) G1 hq hr (by rfl) g1 k1 b1 .nil pass0 (pa_cons (pv 0) (pa_cons (pe_callB call_len_seq (by rfl) B.len bLen (pa_cons (pv 2) pa_nil)) pa_nil))) pa_nil)))
      (pss_one (ps_ret (pe_cmpR op_isN (pe_meth (E := E0) (pv 1) N.cl m9 G9 hr b9 .nil passL (pa_cons (pe_ix ix_tup (pv 9) pe_int (fun _ _ => rfl)) (pa_cons (pe_ix ix_tup (pv 9) pe_int (fun _ _ => rfl)) pa_nil))) pe_non (nomark _))))) pss_nil)
    (pss_cons (ps_if (pt_cmpR op_eq (pv 4) pe_int (nomark _))
      (pss_cons (ps_set (i := 10) scDR.nd rfl (.inl rfl) (pe_callB call_len_seq (by rfl) B.len bLen (pa_cons (pe_lc (own := [("_law_pair", 9)]) (g := gName 9) (tt := tTest (tOp rEq (tOp (rIxT K) (tVar 9) (tC (.int 0))) (tVar 5))) (te := tVar 9) rfl scDR.nd (pi_list (pv 2)) (blkOk_by (own := [("_law_pair", 9)]) (N := nDR) (sc := defScope sDR) (by decide +kernel))
          (fun _ _ _ _ _ => pg_name (i := 9) scDR.nd rfl (Or.inl rfl)) (fun _ _ _ _ _ => by exact pts_one (pt_cmpR op_eq (pe_ix ix_tup (pv 9) pe_int (fun _ _ => rfl)) (pv 5) (nomark _))) (fun _ _ _ _ _ => pv 9)) pa_nil)))
      (pss_cons (ps_asg (pe_lc (own := [("_law_pair", 9)]) (g := gName 9) (tt := tTest (tOp rNe (tOp (rIxT K) (tVar 9) (tC (.int 0))) (tVar 5))) (te := tVar 9) rfl scDR.nd (pi_list (pv 2)) (blkOk_by (own := [("_law_pair", 9)]) (N := nDR) (sc := defScope sDR) (by decide +kernel))
          (fun _ _ _ _ _ => pg_name (i := 9) scDR.nd rfl (Or.inl rfl)) (fun _ _ _ _ _ => by exact pts_one (pt_cmpR op_ne (pe_ix ix_tup (pv 9) pe_int (fun _ _ => rfl)) (pv 5) (nomark _))) (fun _ _ _ _ _ => pv 9)) (pg_all (pv 2)))
      (pss_one (ps_ret (pe_cmpR op_eq (pe_callB (call_reprG hq hr.units) (by rfl) B.repr bRepr (pa_cons (pe_meth (E := E0) (pv 1) N.cl m8 G8 hr b8 .nil pass0 (pa_cons (pv 5) pa_nil)) pa_nil)) (pe_callB (call_reprG hq hr.units) (by rfl) B.repr bRepr (pa_cons (pv 10) pa_nil)) (nomark _)))))) pss_nil)
    (pss_one (ps_ret (callG (E := E0) G3 hq hr (by rfl) g3 k3 b3 .nil pass0 (pa_cons (pv 0) (pa_cons (pv 1) (pa_cons (pv 2) (pa_cons (pv 3) pa_nil)))))))))), ?_⟩
  have l8 := LB.n8
  refine q_asgPG (p := p) (evp_tup (evpa_cons (evp_draw (b := 8) rfl (fun _ => ev_c) (by decide) (by decide +kernel)) (evpa_cons (evp_names LB.nl (st.names LB) LB.n0 (by omega) rfl rfl) (evpa_cons (evp_names LB.nl (st.names LB) LB.n0 (by omega) rfl rfl) evpa_nil))) (fun ds ⟨d, es, e1, _, e, es2, e2, _, e3, es3, e4, _, e5⟩ => by subst e1 e2 e4 e5; show 3 ≤ 1000; decide)) st.pot fun v d H1 r1 hs hv => ?_
  obtain ⟨ds, rfl, d1, es, rfl, ⟨c, rfl, c0, c8⟩, d2, es2, rfl, ⟨s0, hs0, rfl⟩, d3, es3, rfl, ⟨t0, ht0, rfl⟩, rfl⟩ := hs
  cases hv with
  | @tup T0 _ _ hT hv =>
  cases hv with
  | @cons va _ _ _ hva hv =>
  cases hva
  cases hv with
  | @cons vb _ _ _ hvb hv =>
  cases hvb
  cases hv with
  | @cons vc _ _ _ hvc hv =>
  cases hvc
  cases hv
  refine ⟨T0, _, rfl, st_of (wo_some hT).2, rfl, .int c, _, rfl, .str s0, _, rfl, .str t0, _, rfl, rfl, ?_⟩
  show tSeq _ _ _ [some (.ref p), some (.ref x), some (.ref lr), some (.ref ln), some (.int c), some (.str s0), some (.str t0), none, none, none, none] H1
  have st1 := st.drew r1
  clear hT st
  have psn : ∀ {Hc : Hp} {g : List Row} {ps : List Pr}, Kp C HB Hc p x lr A' g ns ps → ∀ q ∈ ps, isNameS q.1 = true ∧ isNameS q.2 = true := fun k q hq => k.ng.nd.ok.name ((k.hm q).mpr hq)
  have qn : isNameS s0 = true ∧ isNameS t0 = true := ⟨LB.nm s0 hs0, LB.nm t0 ht0⟩
  have few := st1.kp.few9 (by omega)
  refine q_when (et_test (ev_op (ev_var rfl) ev_c rv_I0)) (fun _ H2 e2 => ?_) (fun _ H2 e2 => ?_)
  · -- a need recorded
    have st2 := st1.ex e2
    refine q_asgAny ⟨.ref x, rfl, x, A'.dx, _, rfl, st2.kp.ng.nd.ob, rfl, .str s0, rfl, .str t0, rfl, ?_⟩
    dsimp only [tNil]
    refine rec_ofB st2.kp.ng.nd (by decide) hs0 ht0 fun g3 H3 bu3 nd3 hm3 hr3 => ?_
    have tb3 := tabs_chg st2.kp.ng.nd st2.tb bu3 (fun a ha => .inl (List.mem_singleton.mp ha))
    obtain ⟨ng3, r3, hp3⟩ := st2.kp.chg LB.pot bu3 (fun a ha => .inl (List.mem_singleton.mp ha)) nd3 fun r hr => (hr3 r hr).imp (fun h => ⟨r, h, rfl⟩) id
    rw [show decide (t0 ∈ tgS g s0) = decide ((s0, t0) ∈ ps) from decide_eq_decide.mpr (st2.kp.hm (s0, t0))]
    obtain ⟨b, hb⟩ : ∃ b, b = !decide ((s0, t0) ∈ ps) := ⟨_, rfl⟩
    rw [← hb]
    show tSeq _ _ _ [some (.ref p), some (.ref x), some (.ref lr), some (.ref ln), some (.int c), some (.str s0), some (.str t0), some (.bl b), none, none, none] H3
    refine q_asg (v := .bl b) (ev_is (ev_notInL (d := pD (s0, t0)) (evd_tup (evda_cons (evd_var rfl (.str s0)) (evda_cons (evd_var rfl (.str t0)) evda_nil)) (by show 2 ≤ 1000; decide)) (evd_var rfl (dt_wo hp3)) (pr_lay qn.1 qn.2) (prs_lay (psn st2.kp)) (by show 1 ≤ 5; decide)) (by rw [any_pD, hb])) fun H4 e4 => ?_
    have ng4 := ng3.ex e4
    have r4 := r3.trans (Drew.of r3.pot e4)
    have hp4 := (Drew.of r3.pot e4).dt hp3
    have tb4 := tb3.ext e4
    obtain ⟨_, xs, e', hx, hd⟩ := dt_lst hp4
    cases e'
    obtain ⟨nlr, hx4⟩ := wo_some hx
    have lx := dtAll_len hd
    rw [List.length_map] at lx
    show tSeq _ _ _ [some (.ref p), some (.ref x), some (.ref lr), some (.ref ln), some (.int c), some (.str s0), some (.str t0), some (.bl b), some (.bl b), none, none] H4
    refine q_dropAny ⟨.ref lr, rfl, .inl ⟨rfl, _, sq_of hx4⟩, .str s0, rfl, .str t0, rfl, by show 2 ≤ sizeLine; decide, fun T5 zT5 => ⟨by show 1 ≤ sizeLine; decide, fun L zL => ⟨.bl b, rfl, .inr ⟨b, rfl, L, _, [.ref T5], rfl, rfl, upd_same, by cases b <;> decide, by cases b <;> decide, by rw [List.length_singleton]; cases b <;> decide, fun L2 zL2 => ?_⟩⟩⟩⟩
    have e5 := Ex.new (o := .tup [.str s0, .str t0]) zT5
    have e6 := Ex.new (o := .lst [.ref T5]) zL
    have e7 := Ex.new (o := .lst (List.replicate (if b = true then (1 : Int) else 0).toNat [V.ref T5]).flatten) zL2
    have nT5 : T5 ≠ p := r4.neq zT5
    have ez : (List.replicate (if b = true then (1 : Int) else 0).toNat [V.ref T5]).flatten = if b = true then [V.ref T5] else [] := by cases b <;> rfl
    rw [ez] at e7 ⊢
    have hT7 := e7 _ _ (e6 _ _ (show (upd H4 T5 (.tup [.str s0, .str t0])) T5 = _ from upd_same))
    have hL7 : (upd (upd (upd H4 T5 (.tup [.str s0, .str t0])) L (.lst [.ref T5])) L2 (.lst (if b = true then [V.ref T5] else []))) L2 = some (.lst (if b = true then [V.ref T5] else [])) := upd_same
    have e47 := (e5.trans e6).trans e7
    clear e5 e6 e7 zL zL2 zT5
    generalize upd (upd (upd H4 T5 (.tup [.str s0, .str t0])) L (.lst [.ref T5])) L2 (.lst (if b = true then [V.ref T5] else [])) = H7 at e47 hT7 hL7
    have hx7 := e47 _ _ hx4
    refine ⟨lr, L2, xs, _, rfl, rfl, hx7, hL7, ?_, ?_⟩
    · refine Nat.le_trans (?_ : _ ≤ 1000) (by decide)
      cases b
      · show xs.length + 0 ≤ 1000; omega
      · show xs.length + 1 ≤ 1000; omega
    have tb8 := tabs_put (xs := xs ++ if b = true then [V.ref T5] else []) (tb4.ext e47) hx7
    have d7 := (Drew.of r4.pot e47)
    have kp8 : Kp C HB (upd H7 lr (.lst (xs ++ if b = true then [V.ref T5] else []))) p x lr A' g3 ns (ps ++ if b = true then [(s0, t0)] else []) := by
      refine Kp.put (ng4.ex e47) (r4.trans d7) LB.pot (d7.dt hp4) st2.kp.zl ?_ ?_ fun q' => (hm3 q').trans ?_
      · rw [List.map_append]
        refine dtAll_app (d7.dts hd) ?_
        cases b
        · exact .nil
        · exact .cons (.tup (by rw [wo_ne nT5]; exact hT7) (.cons (.str _) (.cons (.str _) .nil))) .nil
      · cases b with
        | false => rw [if_neg (by decide), List.append_nil]; exact st2.kp.dis
        | true =>
          rw [if_pos rfl]
          refine List.nodup_append.mpr ⟨st2.kp.dis, List.pairwise_singleton _ _, fun a ha b' hb' e => ?_⟩
          rw [List.mem_singleton.mp hb'] at e
          rw [e] at ha
          rw [decide_eq_true ha] at hb
          cases hb
      · rw [st2.kp.hm q', List.mem_append]
        cases b with
        | false =>
          rw [if_neg (by decide)]
          constructor
          · rintro (h | h)
            · rw [h]
              refine .inl (Decidable.byContradiction fun n => ?_)
              rw [decide_eq_false n] at hb
              cases hb
            · exact .inl h
          · rintro (h | h)
            · exact .inr h
            · exact nomatch h
        | true =>
          rw [if_pos rfl, List.mem_singleton]
          exact ⟨fun h => h.elim .inr .inl, fun h => h.elim .inr .inl⟩
    have st8 : St C HB _ p x lr A' g3 ns (ps ++ if b = true then [(s0, t0)] else []) T := ⟨kp8, tb8⟩
    dsimp only
    show tRet _ _ [some (.ref p), some (.ref x), some (.ref lr), some (.ref ln), some (.int c), some (.str s0), some (.str t0), some (.bl b), some (.bl b), none, none] _
    exact s_ret (v := .bl true) (ev_is (ev_op (ev_reprD (evd_var rfl (.bl b)) (fits_bool b)) (ev_reprD (evd_var rfl (.bl b)) (fits_bool b)) (rv_eq rfl)) (congrArg V.bl (decide_eq_true rfl))) fun H9 e9 => q H9 _ _ (st8.ex e9)
  have st2 := st1.ex e2
  have neT : ∀ {Hc : Hp} {σ : L2.St}, Kp C HB Hc p x lr A' g ns ps → σ[2]? = some (some (.ref lr)) → EvT (tTest (tOp rNeDt (tVar 2) (tLst tNil))) σ Hc (!PyData.eqv (.list (ps.map pD)) (.list [])) := fun k h => et_neD (evd_var h (dt_wo k.hp)) (evd_lst evda_nil (by show 0 ≤ 1000; decide)) (prs_shaped (psn k)) (by decide +kernel)
  have ixP : ∀ {H' : Hp} {σ : L2.St} {S : Addr} {a b z : Str} {j : Nat}, H' S = some (.tup [.str a, .str b]) → σ[9]? = some (some (.ref S)) → ([V.str a, .str b] : List V)[j]? = some (.str z) → Ev (tOp (rIxT K) (tVar 9) (tC (.int (j : Int)))) σ H' (.str z) := fun hT' h5 hj => ev_op (ev_var h5) ev_c (rv_ixT (st_of hT') (atI_nat hj))
  refine q_when (et_and (b := !PyData.eqv (.list (ps.map pD)) (.list [])) (et_test (ev_op (ev_var rfl) ev_c rv_I0)) fun _ => neT st2.kp rfl) (fun hb H7 e7 => ?_) (fun _ H7 e7 => ?_)
  · -- one of them deleted
    have st6 := st2.ex e7
    have K6 := st6.kp
    obtain ⟨_, xs, e', hx, hd⟩ := dt_lst K6.hp
    cases e'
    obtain ⟨nlA, hx1⟩ := wo_some hx
    have la := dtAll_len hd
    rw [List.length_map] at la
    have pp : 0 < ps.length := by
      rw [Bool.and_eq_true] at hb
      cases ps with
      | nil => simp [PyData.eqv, PyData.eqvAll] at hb
      | cons _ _ => exact Nat.succ_pos _
    refine ⟨.ref lr, rfl, .inl ⟨rfl, _, sq_of hx1⟩, .ref p, rfl, .ref lr, rfl, lr, _, rfl, .inl (sq_of hx1), p, _, rfl, by omega, ?_, K6.dr.pot, fun c H15 c0 c1 r15 => ?_⟩
    · refine Nat.lt_of_le_of_lt (Nat.log2_le_self _) ?_
      omega
    have KF := K6.drew r15
    have tbF := tabs_drew st6.tb K6.dr.pot r15
    have cl : c.toNat < ps.length := by omega
    have hx15 := r15.at nlA hx1
    have hd15 := r15.dts hd
    obtain ⟨v0, hv0⟩ : ∃ v0, xs[c.toNat]? = some v0 := ⟨_, List.getElem?_eq_getElem (by omega)⟩
    obtain ⟨d0, hd1, hd2⟩ := dtAll_at hd15 hv0
    rw [List.getElem?_map, List.getElem?_eq_getElem cl] at hd1
    obtain ⟨q0, hq0, rfl⟩ : ∃ q0, ps[c.toNat]? = some q0 ∧ pD q0 = d0 := ⟨_, List.getElem?_eq_getElem cl, Option.some.inj hd1⟩
    obtain ⟨S, rfl, hS⟩ := pD_refB (dt_wo hd2)
    refine ⟨lr, xs, c, c.toNat, .ref S, rfl, rfl, hx15, by omega, by omega, seqIndex_of c0 (by omega), hv0, ?_⟩
    have dE := dts_erase c.toNat hd15
    rw [map_erase] at dE
    obtain ⟨ng16, r16, hp16⟩ := put3 KF.ng KF.dr KF.hp KF.zl dE
    have tb16 := tabs_put (xs := xs.eraseIdx c.toNat) tbF hx15
    have hS16 : (upd H15 lr (.lst (xs.eraseIdx c.toNat))) S = some (.tup [.str q0.1, .str q0.2]) := upd_keep hS hx15 nofun
    generalize upd H15 lr (.lst (xs.eraseIdx c.toNat)) = H16 at ng16 r16 hp16 hS16 tb16
    dsimp only
    show tRet _ _ [some (.ref p), some (.ref x), some (.ref lr), some (.ref ln), some (.int _), some (.str s0), some (.str t0), none, none, some (.ref S), none] H16
    refine ⟨.ref x, rfl, x, A'.dx, _, rfl, ng16.nd.ob, rfl, ?_⟩
    refine ixP (j := 0) hS16 rfl rfl H16 (Ex.refl H16) _ fun H17 e17 => ?_
    refine ixP (j := 1) (e17 _ _ hS16) rfl rfl H17 (Ex.refl H17) _ fun H18 e18 => ?_
    have e68 := e17.trans e18
    have mem : q0.2 ∈ tgS g q0.1 := (K6.hm q0).mpr (List.mem_of_getElem? hq0)
    dsimp only [tNil]
    refine del_of (ng16.ex e68).nd (by decide) mem fun g19 H19 bu19 nd19 hm19 hr19 => ?_
    have hbu : ∀ a ∈ A'.dd :: g.map (·.a), a = A'.dd ∨ ∃ r ∈ g, a = r.a := fun a ha => (List.mem_cons.mp ha).imp id fun m => (by obtain ⟨r, hr, e⟩ := List.mem_map.mp m; exact ⟨r, hr, e.symm⟩)
    obtain ⟨ng19, r19, hp19⟩ := chg3 (ng16.ex e68) (r16.trans (Drew.of r16.pot e68)) ((Drew.of r16.pot e68).dt hp16) LB.pot bu19 hbu nd19 fun r hr => .inl (hr19 r hr)
    have tb19 := tabs_chg (ng16.ex e68).nd (tb16.ext e68) bu19 hbu
    have pm := erase_perm hq0
    have nde : (q0 :: ps.eraseIdx c.toNat).Nodup := pm.nodup_iff.mpr K6.dis
    rw [List.nodup_cons] at nde
    refine ⟨rfl, q H19 g19 (ps.eraseIdx c.toNat) ⟨⟨ng19, r19, hp19, nde.2, fun q' => (hm19 q').trans ?_, K6.zl⟩, tb19⟩⟩
    rw [K6.hm q', ← pm.mem_iff, List.mem_cons]
    constructor
    · rintro ⟨h1 | h1, h2⟩
      · exact absurd h1 h2
      · exact h1
    · exact fun h => ⟨.inr h, fun e => nde.1 (by have e' : q' = q0 := e; rw [← e']; exact h)⟩
  have st7 := st2.ex e7
  refine q_when (et_test (ev_op (ev_var rfl) ev_c (rv_eq rfl))) (fun _ H8 e8 => ?_) (fun _ H8 e8 => ?_)
  · -- all of a name
    have st8 := st7.ex e8
    have K8 := st8.kp
    have fe : ∀ {Hc : Hp} {y : Option V} (neg : Bool) {r : R2}, (∀ (s t : Str) (H : Hp), RV r (.str s) (.str t) H (.bl (if neg then !decide (V.str s = .str t) else decide (V.str s = .str t)))) → Kp C HB Hc p x lr A' g ns ps →
        EvDF (tLc (iList K (tVar 2)) (gName 9) (tTest (tOp r (tOp (rIxT K) (tVar 9) (tC (.int 0))) (tVar 5))) (tVar 9) [9]) [some (.ref p), some (.ref x), some (.ref lr), some (.ref ln), some (.int c), some (.str s0), some (.str t0), none, none, none, y] Hc (.list ((ps.filter fun q => if neg then decide (q.1 ≠ s0) else decide (q.1 = s0)).map pD)) := fun neg _ hr k =>
      evdf_fstB (lp := lr) neg hr (ev_var rfl) (dt_wo k.hp) (by omega) (fun _ => rfl) (by show 9 < 11; decide) rfl (fun z H9 e9 => ev_var rfl)
    have dl : (tgS g s0).length = (ps.filter fun q => decide (q.1 = s0)).length := by
      rw [← tg_due K8.ng.nd.ok K8.dis K8.hm, (srtS_perm _).length_eq]
      unfold tgP
      rw [List.length_map]
    refine q_asg (ev_is (evd_lenB (K := K) (fe (y := none) false (fun s t H => rv_eq rfl) K8).d) (by rw [List.length_map])) fun H9 e9 => ?_
    have st9 := st8.ex e9
    have K9 := st9.kp
    have few9 := K9.ng.nd.ok.fewT s0
    refine q_asgG ?_
    refine fe (y := some (.int _)) true (fun s t H => rv_ne rfl) K9 H9 (Ex.refl H9) _ fun l10 H10 z10 e10 hv10 => ?_
    have st10 := st9.ex e10
    have K10 := st10.kp
    obtain ⟨i10, j10, hp10, _⟩ := K10.dr.pot
    have hw10 := pairs_wo hp10 hv10
    obtain ⟨_, ys, e', hy, hyd⟩ := dt_lst hw10
    cases e'
    obtain ⟨_, xs, e', hx, hd⟩ := dt_lst K10.hp
    cases e'
    have ly := dtAll_len hyd
    have lx := dtAll_len hd
    rw [List.length_map] at ly lx
    have lf := List.length_filter_le (fun q : Pr => if true = true then decide (q.1 ≠ s0) else decide (q.1 = s0)) ps
    have hx10 := (wo_some hx).2
    have hx9 : H9 lr ≠ none := by
      obtain ⟨_, xs8, e', hx8, _⟩ := dt_lst K9.hp
      cases e'
      rw [(wo_some hx8).2]
      exact nofun
    have nll : lr ≠ l10 := fun e => hx9 (by rw [e]; exact z10)
    refine ⟨.ref lr, rfl, lr, l10, xs, ys, rfl, rfl, nll, hx10, (wo_some hy).2, Nat.le_trans (by omega : _ ≤ 1000) (by decide), ?_⟩
    obtain ⟨ng11, r11, hp11⟩ := put3 K10.ng K10.dr K10.hp K10.zl hyd
    have tb11 := tabs_put (xs := ys) st10.tb hx10
    generalize upd H10 lr (.lst ys) = H11 at ng11 r11 hp11 tb11
    show tRet _ _ [some (.ref p), some (.ref x), some (.ref lr), some (.ref ln), some (.int c), some (.str s0), some (.str t0), none, none, none, some (.int ((ps.filter fun q => decide (q.1 = s0)).length : Int))] H11
    refine ⟨.ref x, rfl, x, A'.dx, _, rfl, ng11.nd.ob, rfl, .str s0, rfl, ?_⟩
    dsimp only [tNil]
    refine delAll_of ng11.nd qn.1 fun g12 H12 bu12 nd12 hm12 hr12 => ?_
    obtain ⟨ng12, r12, hp12⟩ := chg3 ng11 r11 hp11 LB.pot bu12 (fun a ha => .inl (List.mem_singleton.mp ha)) nd12 fun r hr => .inl ⟨r, hr12 r hr, rfl⟩
    have tb12 := tabs_chg ng11.nd tb11 bu12 (fun a ha => .inl (List.mem_singleton.mp ha))
    have fin : St C HB H12 p x lr A' g12 ns _ T := ⟨⟨ng12, r12, hp12, List.Nodup.sublist List.filter_sublist K10.dis, fun q' => (hm12 q').trans (by rw [K10.hm q', List.mem_filter, if_pos rfl, decide_eq_true_iff]), K10.zl⟩, tb12⟩
    have ft : Fits (.int ((tgS g s0).length : Int)) := fits_num (by omega)
    refine ⟨.int _, .int ((tgS g s0).length : Int), rfl, .int _, ft, ?_⟩
    rw [← dl]
    refine ev_reprD (evd_var rfl (.int ((tgS g s0).length : Int))) ft H12 (Ex.refl H12) _ fun H13 e13 => ⟨rfl, ?_⟩
    rw [decide_eq_true rfl]
    exact q H13 _ _ (fin.ex e13)
  have st8 := st7.ex e8
  exact ⟨.ref p, rfl, .ref x, rfl, .ref lr, rfl, .ref ln, rfl, p, x, lr, ln, HB, A', g, ns, ps, rfl, LB, st8, fun H' st' => q H' g ps st'⟩
end
end Cr
/-! k21: the law -/
namespace Cr
open PySem PySem.Spec PyProof.Rows L2 Evl
abbrev sLaw : Stmt := topS 28
abbrev nLaw : List Str := ["_law_script", "_law_index", "_law_pot_here", "_law_names", "_law_rows", "_law_made", "_law_turn"]
theorem scLaw : FnScope nLaw ["_law_script"] (defScope sLaw) := ⟨rfl, rfl, rfl, by decide +kernel, rfl, by decide +kernel, by decide +kernel⟩
def spLaw (K : PySem.W.Frag) (T : TabL) : Sp := fun vs H Q _ => ∃ (a : Addr) (ns : List Int), vs = [.ref a] ∧ SqL K H a (ns.map V.int) ∧ ns.length ≤ 63 ∧ LamX.Tabs T H ∧ ∀ H', Q (.bl true) H'
section
variable {C : Addr} {HB H H' : Hp} {p x lp : Addr} {A : NdA} {g : List Row} {ns : List Str} {ps : List Pr} {T : TabL}
theorem NdAt.rel {U : List Str} (h : NdAt C H x A U g) (pot : Pot H p) (r : Rel p H H') : NdAt C H' x A U g := by
  obtain ⟨i, j, hp, _⟩ := pot
  refine ⟨r.at (fun e => ?_) h.ob nofun, r.at (fun e => ?_) h.di nofun, fun r' hr => r.at (fun e => ?_) (h.ls r' hr) nofun, h.ok⟩
  · have z := h.ob; rw [e, hp] at z; cases z
  · have z := h.di; rw [e, hp] at z; cases z
  · have z := h.ls r' hr
    rw [e, hp] at z
    cases ht : r'.ts with
    | nil => exact h.ok.ne r' hr ht
    | cons t ts => rw [ht] at z; cases z
theorem Drew.rel (n : NoT HB) (d : Drew p HB H) (r : Rel p H H') : Drew p HB H' := ⟨fun a o z => r.ext a o (d.ex a o z) fun ps q => n a ps (by rw [← q]; exact (wo_some z).2), r.pot⟩
theorem St.rel (h : St C HB H p x lp A g ns ps T) (n : NoT HB) (r : Rel p H H') (t : LamX.Tabs T H') : St C HB H' p x lp A g ns ps T :=
  ⟨⟨⟨h.kp.ng.nd.rel h.pot r, h.kp.ng.zx, h.kp.ng.zd, h.kp.ng.za⟩, h.kp.dr.rel n r, r.dt h.kp.hp, h.kp.dis, h.kp.hm, h.kp.zl⟩, t⟩
end
theorem sql_exN {K : PySem.W.Frag} {H H' : Hp} {a : Addr} {xs : List V} (e : LamX.ExtN H H') (h : SqL K H a xs) : SqL K H' a xs := by
  rcases h with (h | ⟨o, h⟩) | h
  · exact .inl (.inl (e _ _ h nofun))
  · exact .inl (.inr ⟨o, e _ _ h nofun⟩)
  · exact .inr h
/-- tests whose call changes the heap -/
theorem q_notRaw {te : TE} {tw tz : TS} {D : Ends} {σ : L2.St} {H : Hp} {Kk : Hp → Prop} (h : ∀ R : VK, (∀ H1, Kk H1 → R (.bl true) H1) → te σ H R) (k : ∀ H1, Kk H1 → tz D σ H1) : tSeq (tIfS (tNot (tB te)) tw tNext) tz D σ H := h _ fun H1 h1 => ⟨true, rfl, k H1 h1⟩
theorem s_orRaw {te : TE} {u : TT} {tw : TS} {D : Ends} {σ : L2.St} {H : Hp} {Kk : Hp → Prop} (h : ∀ R : VK, (∀ H1, Kk H1 → R (.bl true) H1) → te σ H R) (h2 : ∀ H1, Kk H1 → EvT u σ H1 false) (k : ∀ H1 H2, Kk H1 → Ex H1 H2 → D.nx σ H2) : tIfS (tOr (tNot (tB te)) u) tw tNext D σ H :=
  h _ fun H1 h1 => ⟨true, rfl, h2 H1 h1 H1 (Ex.refl H1) _ fun H2 e2 => k H1 H2 h1 e2⟩
section
variable {P : Program} {w : World} {K : PySem.W.Frag} {mg : Str → Option Value} {base : Heap}
theorem ok_law {f C : Addr} {fd : FuncData} {k : Nat} {T : TabL} (F : Fun K "law" "law" sLaw f fd) (B : Blt mg) (N : NdC K mg C) (h1 : Has P w K mg base (k + 1) "_law_pot" ["_law_script", "_law_index"] (spPot K)) (h2 : Has P w K mg base (k + 1) "_law_draw" ["_law_pot_here", "_law_bound"] spDraw) (h3 : Has P w K mg base (k + 1) "_law_words" ["_law_pot_here", "_law_number"] spWords)
    (h4 : Has P w K mg base (k + 1) "_law_made_right" ["_law_pot_here", "_law_names"] (spMadeR T)) (h5 : MkN P w K mg base k C) (h6 : Has P w K mg base (k + 1) "_law_deed_right" ["_law_pot_here", "_law_made", "_law_rows", "_law_names"] (spDeed C T)) (h7 : Has P w K mg base (k + 1) "_law_stands" ["_law_made", "_law_rows", "_law_names"] (spSta C)) :
    FnG P w K mg base CX0 (k + 1 + 1) f fd ["_law_script"] (spLaw K T) := by
  obtain ⟨f1, d1, G1, b1, k1, g1⟩ := h1.ex
  obtain ⟨f2, d2, G2, b2, k2, g2⟩ := h2.ex
  obtain ⟨f3, d3, G3, b3, k3, g3⟩ := h3.ex
  obtain ⟨f4, d4, G4, b4, k4, g4⟩ := h4.ex
  obtain ⟨f5, d5, M5, G5, b5⟩ := h5.ex
  obtain ⟨f6, d6, G6, b6, k6, g6⟩ := h6.ex
  obtain ⟨f7, d7, G7, b7, k7, g7⟩ := h7.ex
  refine okG F scLaw (fun vs H Q E h => by obtain ⟨_, _, rfl, _⟩ := h; rfl) (fun cdv A outer s H vs Q E hq hr h => ?_)
  obtain ⟨a, is, rfl, hS, hl, tb, q⟩ := h
  refine ⟨_, pss_cons (ps_for PassesOwn.never rfl (pi_range1 (by rfl) B.range (pa_cons (pe_callB (call_max2 rfl) (by rfl) B.max bMax (pa_cons pe_int (pa_cons (pe_callB (call_min2 rfl) (by rfl) B.min bMin (pa_cons (pe_callB call_len_seq (by rfl) B.len bLen (pa_cons (pv 0) pa_nil)) (pa_cons pe_int pa_nil))) pa_nil))) pa_nil)) (pg_name (i := 1) scLaw.nd rfl (.inl rfl))
      (pss_cons (ps_set (i := 2) scLaw.nd rfl (.inl rfl) (callG (E := E0) G1 hq hr (by rfl) g1 k1 b1 .nil pass0 (pa_cons (pv 0) (pa_cons (pv 1) pa_nil))))
      (pss_cons (ps_par3 (i := 3) (j := 4) (l := 5) (by rfl) scLaw.nd rfl rfl rfl (by decide) (by decide) (by decide) rfl rfl rfl (pa_cons (callG (E := E0) G3 hq hr (by rfl) g3 k3 b3 .nil pass0 (pa_cons (pv 2) (pa_cons (pe_op op_add pe_int (callG (E := E0) G2 hq hr (by rfl) g2 k2 b2 .nil pass0 (pa_cons (pv 2) (pa_cons pe_int pa_nil)))) pa_nil))) (pa_cons (pe_lst pa_nil) (pa_cons (pe_make0 (E := E0) M5 G5 hr (by rfl) N.at_ b5 .nil pass0) pa_nil))) (by rfl))
      (pss_cons (ps_if (pt_not (pt_val (callG (E := E0) G4 hq hr (by rfl) g4 k4 b4 .nil pass0 (pa_cons (pv 2) (pa_cons (pv 3) pa_nil))))) (pss_one (ps_ret pe_bl)) pss_nil)
      (pss_one (ps_for PassesOwn.never rfl (pi_range1 (by rfl) B.range (pa_cons pe_int pa_nil)) (pg_name (i := 6) scLaw.nd rfl (.inl rfl))
        (pss_one (ps_if (PW.pt (pw_or (pt_not (pt_val (callG (E := E0) G6 hq hr (by rfl) g6 k6 b6 .nil pass0 (pa_cons (pv 2) (pa_cons (pv 5) (pa_cons (pv 4) (pa_cons (pv 3) pa_nil))))))) (pw_or1 (pt_not (pt_val (callG (E := E0) G7 hq hr (by rfl) g7 k7 b7 .nil pass0 (pa_cons (pv 5) (pa_cons (pv 4) (pa_cons (pv 3) pa_nil))))))))) (pss_one (ps_ret pe_bl)) pss_nil))))))))
    (pss_one (ps_ret pe_bl)), ?_⟩
  let mn : Int := if (5 : Int) < (((is.map V.int).length : Nat) : Int) then 5 else (((is.map V.int).length : Nat) : Int)
  let mx : Int := if mn > 1 then mn else 1
  have hmn : 0 ≤ mn ∧ mn ≤ 5 := by
    show 0 ≤ (if (5 : Int) < (((is.map V.int).length : Nat) : Int) then 5 else (((is.map V.int).length : Nat) : Int)) ∧ (if (5 : Int) < (((is.map V.int).length : Nat) : Int) then 5 else (((is.map V.int).length : Nat) : Int)) ≤ 5
    split <;> omega
  have hmx : 1 ≤ mx ∧ mx ≤ 5 := by
    show 1 ≤ (if mn > 1 then mn else 1) ∧ (if mn > 1 then mn else 1) ≤ 5
    split <;> omega
  refine ⟨.ref a, rfl, a, _, rfl, .inl hS, _, 5, rfl, 1, mn, rfl, mx, rfl, by omega, by omega, for_range (lo := 0) (n := mx.toNat) (fun i σ' H' => (∃ (y1 y2 y3 y4 y5 y6 : Option V), σ' = [some (.ref a), y1, y2, y3, y4, y5, y6]) ∧ LamX.ExtN H H' ∧ LamX.Tabs T H') ⟨⟨none, none, none, none, none, none, rfl⟩, LamX.ExtN.refl H, tb⟩ ?_ (fun σ' H' h => ?_)⟩
  rotate_left
  · obtain ⟨⟨_, _, _, _, _, _, rfl⟩, _⟩ := h
    exact q H'
  rintro i σ' H1 hi ⟨⟨y1, y2, y3, y4, y5, y6, rfl⟩, e1, tb1⟩
  show tSeq _ _ _ [some (.ref a), some (.int ((0 : Int) + i)), y2, y3, y4, y5, y6] H1
  refine ⟨.ref a, rfl, .int ((0 : Int) + i), rfl, a, is, i, by rw [Int.zero_add]; rfl, sql_exN e1 hS, by omega, fun p H2 hp e2 pot2 => ?_⟩
  show tSeq _ _ _ [some (.ref a), some (.int ((0 : Int) + i)), some (.ref p), y3, y4, y5, y6] H2
  -- names, no pairs, an empty graph
  refine ⟨.ref p, rfl, .ref p, rfl, p, 8, rfl, by decide, by decide +kernel, pot2, fun c H3 c0 c8 r3 => ⟨1, c, rfl, rfl, ?_⟩⟩
  obtain ⟨m, rfl⟩ := Int.eq_ofNat_of_zero_le c0
  have em : (1 : Int) + (m : Int) = ((1 + m : Nat) : Int) := by omega
  refine ⟨p, 1 + m, by show [V.ref p, V.int ((1 : Int) + (m : Int))] = _; rw [em], r3.pot, by omega, fun ln ns H4 zl hln len nd0 hns r4 => ⟨by show 0 ≤ sizeLine; decide, fun lr zlr => ?_⟩⟩
  have r24 := r3.trans r4
  have nln : ln ≠ p := r3.neq zl
  have tb4 := tabs_drew (tb1.ext e2) pot2 r24
  have e5 := Ex.new (o := .lst []) zlr
  have hlr : (upd H4 lr (.lst [])) lr = some (.lst []) := upd_same
  have nlr : lr ≠ p := r24.neq zlr
  generalize upd H4 lr (.lst []) = H5 at e5 hlr
  refine fun x dx zx zdx nxd => ⟨x, dx, rfl, upd_same, fun dd H6 zdd ndx eH6 => ⟨rfl, .ref ln, .ref lr, .ref x, rfl, ?_⟩⟩
  obtain ⟨A', e6, ng6⟩ : ∃ A', Ex H5 H6 ∧ NewG C H5 H6 x A' ns [] := by
    have := new_of (C := C) (U := ns) (H := H5) (Q := fun v H' => v = .ref x → ∃ A', Ex H5 H' ∧ NewG C H5 H' x A' ns []) hns (by omega) (fun y A' H' e' n' ey => by cases ey; exact ⟨A', e', n'⟩) zx zdx nxd zdd ndx eH6
    exact this rfl
  clear eH6
  have pot4 := r4.pot
  have e46 := e5.trans e6
  have back : ∀ {b : Addr}, H5 b = none → noT H4 b = none := fun {b} z => by
    have z4 := fresh_back e5 z
    unfold noT
    rw [z4]
  have potN : Pot (noT H4) p := by
    obtain ⟨i, j, hpp, h'⟩ := pot4
    exact ⟨i, j, noT_of hpp nofun, h'⟩
  have dr6 : Drew p (noT H4) H6 := ⟨fun b o z => by
    obtain ⟨n, z⟩ := wo_some z
    rw [wo_ne n]
    exact e46 b o (noT_some z).1, pot4.ex e46⟩
  have LB : LawB (noT H4) p ln ns := ⟨potN, noT_no H4, noT_of hln nofun, nln, by omega, by omega, hns⟩
  have st6 : St C (noT H4) H6 p x lr A' [] ns [] T := ⟨⟨⟨ng6.nd, back ng6.zx, back ng6.zd, fun r hr => back (ng6.za r hr)⟩, dr6, .lst (by rw [wo_ne nlr]; exact e6 _ _ hlr) .nil, List.nodup_nil, by intro q; simp [tgS, rowOf], by unfold noT; rw [zlr]⟩, tb4.ext e46⟩
  have out : ∀ {Hc : Hp}, Drew p (noT H4) Hc → LamX.ExtN H Hc := fun {Hc} r b o hb nt => by
    have hb1 := e1 b o hb nt
    have nb := ne_of_none hb1 hp
    exact r.at nb (noT_of (r24.at nb (e2 b o hb1)) nt)
  clear ng6 dr6 e46 e6 e5 r4 r3 zx zdx
  dsimp only
  show tSeq _ _ _ [some (.ref a), some (.int ((0 : Int) + i)), some (.ref p), some (.ref ln), some (.ref lr), some (.ref x), y6] H6
  refine q_notRaw (Kk := fun H7 => St C (noT H4) H7 p x lr A' [] ns [] T) (fun R hR => ⟨.ref p, rfl, .ref ln, rfl, p, ln, ns, rfl, st6.pot, st6.tb, st6.names LB, nln, by omega, by omega, hns, fun H7 r7 t7 => hR H7 (st6.rel LB.nt r7 t7)⟩) (fun H7 st7 => ?_)
  refine s_forR1 (n := 30) (ea_cons ev_c ea_nil) ⟨by decide, by decide⟩ (fun n σ' H' => ∃ (z6 : Option V) (g : List Row) (ps : List Pr), σ' = [some (.ref a), some (.int ((0 : Int) + i)), some (.ref p), some (.ref ln), some (.ref lr), some (.ref x), z6] ∧ St C (noT H4) H' p x lr A' g ns ps T) (fun H8 e8 => ⟨_, [], [], rfl, st7.ex e8⟩) ?_ ?_
  · rintro n σ' H8 hn ⟨z6, g, ps, rfl, st8⟩
    show tIfS _ _ _ _ [some (.ref a), some (.int ((0 : Int) + i)), some (.ref p), some (.ref ln), some (.ref lr), some (.ref x), some (.int (n : Int))] H8
    refine s_orRaw (Kk := fun H9 => ∃ g ps, St C (noT H4) H9 p x lr A' g ns ps T) (fun R hR => ⟨.ref p, rfl, .ref x, rfl, .ref lr, rfl, .ref ln, rfl, p, x, lr, ln, noT H4, A', g, ns, ps, rfl, LB, st8, fun H9 g' ps' st9 => hR H9 ⟨g', ps', st9⟩⟩) (fun H9 ⟨g', ps', st9⟩ => et_is (et_not (et_B (b := true) fun H10 e10 Q' q' => ⟨.ref x, rfl, .ref lr, rfl, .ref ln, rfl, x, lr, ln, A', ns, g', ns, ps', rfl, (st9.ex e10).kp.ng.nd, dt_wo (st9.ex e10).kp.hp, (st9.ex e10).names LB, st9.kp.dis, st9.kp.hm, Nat.le_trans (st9.kp.few9 (by omega)) (by decide), hns, q'⟩)) rfl) (fun H9 H10 ⟨g', ps', st9⟩ e10 => ⟨_, g', ps', rfl, st9.ex e10⟩)
  · rintro σ' H8 ⟨z6, g, ps, rfl, st8⟩
    exact ⟨⟨_, _, _, _, _, _, rfl⟩, out st8.kp.dr, st8.tb⟩
end
end Cr
/-! the law's call where defs of the text make code objects, and nothing is shown around -/
namespace Cr
open PySem PySem.Spec PyProof.Rows L2 Evl
abbrev tabO : Obj := { cls := .none, data := .fields #[] }
/-- the tables and, where it is tracked, the script -/
def hpT (K : PySem.W.Frag) (a : Addr) (o : Obj) (xs : List V) (ts : List Addr) : Hp := fun b => if b ∈ ts then some (.tbl #[]) else if b = a ∧ K.lookup a = none then some (.frz o (.lst xs)) else none
section
variable {K : PySem.W.Frag} {a : Addr} {o : Obj} {xs : List V} {ts : List Addr}
theorem hpT_tab {b : Addr} (h : b ∈ ts) : hpT K a o xs ts b = some (.tbl #[]) := if_pos h
theorem hpT_cases (b : Addr) : (b ∈ ts ∧ hpT K a o xs ts b = some (.tbl #[])) ∨ (b ∉ ts ∧ b = a ∧ K.lookup a = none ∧ hpT K a o xs ts b = some (.frz o (.lst xs))) ∨ (b ∉ ts ∧ hpT K a o xs ts b = none) := by
  by_cases h : b ∈ ts
  · exact .inl ⟨h, if_pos h⟩
  · have e1 : hpT K a o xs ts b = if b = a ∧ K.lookup a = none then some (.frz o (.lst xs)) else none := if_neg h
    by_cases h2 : b = a ∧ K.lookup a = none
    · exact .inr (.inl ⟨h, h2.1, h2.2, e1.trans (if_pos h2)⟩)
    · exact .inr (.inr ⟨h, e1.trans (if_neg h2)⟩)
theorem hpT_scr (h : a ∉ ts) (n : K.lookup a = none) : hpT K a o xs ts a = some (.frz o (.lst xs)) := (if_neg h).trans (if_pos ⟨rfl, n⟩)
end
theorem law_callTG {P : Program} {w : World} {K : PySem.W.Frag} {mg mb : Str → Option Value} {k : Nat} {fa a : Addr} {cs : List (Addr × Addr)} {fd : FuncData} {x : Str} {sp : Sp} {s₁ : Shared} {vs : List Value} {ns : List Int}
    (KX : K.In s₁.heap) (hns : s₁.heap.Ns mainGlobals mg) (hb : s₁.heap.Ns builtinsNs mb) (hbb : ∀ x : Str, x ≠ "__name__" → mb x = bootBuiltins x) (hlim : s₁.heap.NoLimit) (hg : s₁.gens = #[]) (ha : s₁.heap.get? a = some { cls := .type "list", data := .seq vs.toArray })
    (hT : ∀ q ∈ cs, s₁.heap.get? q.2 = some tabO) (nT : ∀ q ∈ cs, K.lookup q.2 = none) (hC : ∀ q ∈ cs, PySem.W.codeHdIn K q.1 q.2 = true)
    (hm : ∃ (bm : Addr) (ob : Obj), mg "__builtins__" = some (.ref bm) ∧ bm ≠ builtinsNs ∧ s₁.heap.get? bm = some ob ∧ ob.cls = .type "module" ∧ ob.dict = some builtinsNs ∧ ob.data = .plain)
    (hi : IntsAre vs ns) (hl : ns.length ≤ sizeLine) (hr : Room k callerA)
    (F : ∀ base : Heap, K.In base → base.Ns mainGlobals mg → (∀ q ∈ cs, LamX.TabB base mg q.1 q.2) → FnG P w K mg base CX0 k fa fd [x] sp)
    (hbind : ∀ (s : Shared) (u : Value), BindsTo s fd ⟨[u], []⟩ [(x, u)])
    (hsp : ∀ H : Hp, SqL K H a (ns.map V.int) → (∀ q ∈ cs, H q.2 = some (.tbl #[])) → sp [.ref a] H (fun v _ => v = .bl true) E0) :
    codeAny (model P w) callerA (.call (.ref fa) ⟨[.ref a], []⟩) (fun r s' => r = .ok (.ret (.bool true)) ∧ OldK s₁.heap s'.heap ∧ s'.os = s₁.os ∧ AllBare s'.gens) s₁ := by
  have rv := vals_ints hi
  have lenV := hi.length
  have tabM : ∀ {q : Addr × Addr}, q ∈ cs → q.2 ∈ cs.map (·.2) := fun hq => List.mem_map_of_mem hq
  have tabG : ∀ {b : Addr}, b ∈ cs.map (·.2) → ∃ q ∈ cs, q.2 = b ∧ s₁.heap.get? b = some tabO ∧ K.lookup b = none := fun hm => by
    obtain ⟨q, hq, rfl⟩ := List.mem_map.mp hm
    exact ⟨q, hq, rfl, hT q hq, nT q hq⟩
  have nota : a ∉ cs.map (·.2) := fun hm => by
    obtain ⟨_, _, _, z, _⟩ := tabG hm
    rw [ha] at z
    cases z
  generalize hH : hpT K a { cls := .type "list", data := .seq vs.toArray } (ns.map V.int) (cs.map (·.2)) = H
  have cas : ∀ b, (b ∈ cs.map (·.2) ∧ H b = some (.tbl #[])) ∨ (b ∉ cs.map (·.2) ∧ b = a ∧ K.lookup a = none ∧ H b = some (.frz { cls := .type "list", data := .seq vs.toArray } (.lst (ns.map V.int)))) ∨ (b ∉ cs.map (·.2) ∧ H b = none) := fun b => by rw [← hH]; exact hpT_cases b
  -- the script's list and plain tables alone are tracked
  have free : ∀ {b : Addr} {o : Obj}, s₁.heap.get? b = some o → (∀ us n, o.data ≠ .seq us n) → o.data ≠ .fields #[] → H b = none := fun {b o} e n1 n2 => by
    rcases cas b with ⟨hm, _⟩ | ⟨_, rfl, _⟩ | ⟨_, z⟩
    · obtain ⟨_, _, _, z, _⟩ := tabG hm
      rw [e] at z
      cases z
      exact absurd rfl n2
    · rw [ha] at e
      cases e
      exact absurd rfl (n1 _ _)
    · exact z
  have hok : HOk P w H s₁.heap := fun b u z => by
    rcases cas b with ⟨hm, q⟩ | ⟨_, rfl, _, q⟩ | ⟨_, q⟩
    · rw [q] at z
      cases z
      obtain ⟨_, _, _, y, _⟩ := tabG hm
      exact y
    · rw [q] at z
      cases z
      exact ⟨ha, by rw [List.length_map]; exact hl, vs, _, rv, ha⟩
    · rw [q] at z; cases z
  have keepN : ∀ {b : Addr} {m : Str → Option Value}, s₁.heap.Ns b m → (hidT s₁.heap H).Ns b m := fun {b m} z => by
    obtain ⟨o, es, ep, e, d, r⟩ := z
    exact ⟨o, es, ep, hidT_get e (free e (fun us n q => by rw [d] at q; cases q) (fun q => by rw [d] at q; cases q)), d, r⟩
  have keepK : K.In (hidT s₁.heap H) := fun b o e => by
    refine hidT_get (KX b o e) ?_
    rcases cas b with ⟨hm, _⟩ | ⟨_, rfl, n, _⟩ | ⟨_, z⟩
    · obtain ⟨_, _, _, _, n⟩ := tabG hm
      rw [n] at e; cases e
    · rw [n] at e; cases e
    · exact z
  have hMod : Mod K mg (hidT s₁.heap H) := by
    obtain ⟨mc, l1, l2⟩ := hlim
    exact ⟨keepK, keepN hns, ⟨mb, keepN hb, hbb⟩, ⟨mc, keepN l1, l2⟩⟩
  have tabs : ∀ q ∈ cs, LamX.TabB (hidT s₁.heap H) mg q.1 q.2 := fun q hq => by
    obtain ⟨bm, ob, m1, m2, m3, m4, m5, m6⟩ := hm
    have glob : ∀ {b : Addr} {u : Obj}, s₁.heap.get? b = some u → (∀ es ep, u.data ≠ .dict es ep) → b ≠ mainGlobals := fun e nd q => by
      obtain ⟨o, es, ep, eo, d, _⟩ := hns
      rw [q, eo] at e
      cases e
      exact nd _ _ d
    refine ⟨PySem.W.codeHd_of_K keepK (hC q hq), ⟨bm, ob, m1, m2, glob m3 fun es ep z => ?_, fun z => ?_, hidT_get m3 (free m3 (fun us n z => ?_) fun z => ?_), m4, m5, m6⟩, fun z => glob (hT q hq) (fun es ep y => nomatch y) z.symm⟩
    · rw [m6] at z; cases z
    · rw [z, hT q hq] at m3
      cases m3
      cases m6
    · rw [m6] at z; cases z
    · rw [m6] at z; cases z
  have e0 : Env0 P w K mg (hidT s₁.heap H) callerA [] s₁ H :=
    { frames := rfl, mod := hMod, bs := fun b o e => of_hidT e, bsz := Nat.le_of_eq (hidT_size _ _), funs := trivial,
      frf := fun b z => absurd (show b ∈ ([] : List Addr) from z) List.not_mem_nil, hok := hok, bare := .of_eq hg }
  have hS : SqL K H a (ns.map V.int) := by
    cases hk : K.lookup a with
    | none => exact .inl (.inr ⟨_, by rw [← hH]; exact hpT_scr nota hk⟩)
    | some o =>
      have e := KX a o hk
      rw [ha] at e
      cases e
      exact .inr ⟨_, vs.toArray, _, hk, rfl, rfl, rfl, by rw [List.size_toArray, lenV]; exact hl, by simpa using rv⟩
  have go := (F _ keepK (keepN hns) tabs).goes callerA [] s₁ H ⟨[.ref a], []⟩ [.ref a] [.ref a] _ _ rfl hr e0 (hbind s₁ (.ref a)) (.cons rfl .nil) (hsp H hS fun q hq => by rw [← hH]; exact hpT_tab (tabM hq))
  refine codeAny_mono go fun res s2 z => ?_
  match res, z with
  | .error e, z => exact z.elim
  | .ok .next, z => exact False.elim z
  | .ok .brk, z => exact False.elim z
  | .ok .cont, z => exact False.elim z
  | .ok (.ret u), ⟨v, H2, os, bare, un, hok2, rel, q⟩ =>
    have qv : v = .bl true := q
    subst qv
    obtain rfl : u = Value.bool true := rel
    have tabE : ∀ {b : Addr}, b ∈ cs.map (·.2) → ∃ more : Array Value, s2.heap.get? b = some { cls := .none, data := .fields more } := fun {b} hm => by
      rcases cas b with ⟨_, q⟩ | ⟨n, _⟩ | ⟨n, _⟩
      · obtain ⟨more, y⟩ := un.tbls b #[] q
        exact ⟨_, hok2 b _ y⟩
      · exact absurd hm n
      · exact absurd hm n
    have stay : ∀ {b : Addr} {o : Obj}, b ∉ cs.map (·.2) → s₁.heap.get? b = some o → s2.heap.get? b = some o := fun {b o} nb e => by
      rcases cas b with ⟨hm, _⟩ | ⟨_, rfl, _, q⟩ | ⟨_, q⟩
      · exact absurd hm nb
      · obtain ⟨g1, _⟩ := hok2 b _ (un.frzs b _ _ q)
        rw [ha] at e
        cases e
        exact g1
      · exact un.keep b o e q (fun y => absurd (show b ∈ ([] : List Addr) from y) List.not_mem_nil) List.not_mem_nil
    refine ⟨rfl, ⟨fun b o e => ?_, fun b o e => ?_⟩, os, bare⟩
    · by_cases hb2 : b ∈ cs.map (·.2)
      · obtain ⟨q, hq, rfl, y, _⟩ := tabG hb2
        obtain ⟨more, hmo⟩ := tabE hb2
        rw [e] at y
        cases y
        exact .inr (.inl ⟨((PySem.W.codeHd_of_K KX (hC q hq)).tab (hT q hq)).isCodeTable, rfl, #[], more, rfl, by rw [Array.empty_append]; exact hmo⟩)
      · exact .inl (stay hb2 e)
    · by_cases hb2 : b ∈ cs.map (·.2)
      · obtain ⟨more, hmo⟩ := tabE hb2
        exact ⟨_, hmo⟩
      · exact ⟨o, stay hb2 e⟩
/-- the end of a law row with tables -/
theorem walkTG {l : PySem.W.OpenLaw} {n k : Nat} {q : Program} {loose : List Str} {XP : (Str → Option Value) → Heap → Prop} {YP : World → Heap → Prop} {d : DefRec} {K : Params → PySem.W.Frag} {sp : World → Sp} {x : Str} {cs : List (Addr × Addr)}
    (hn : l.most = some n) (hn2 : n ≤ sizeLine) (hdf : d.params.defaults = []) (hr : Room k callerA)
    (hY : ∀ (w : World) (h : Heap), YP w h → (K w.params).In h) (hT : ∀ (w : World) (h : Heap), YP w h → ∀ q ∈ cs, h.get? q.2 = some tabO)
    (hK : ∀ w : World, (∀ q ∈ cs, (K w.params).lookup q.2 = none) ∧ ∀ q ∈ cs, PySem.W.codeHdIn (K w.params) q.1 q.2 = true)
    (F : ∀ (w : World) (mg : Str → Option Value) (fa : Addr) (h : Heap), (K w.params).In h → h.Ns mainGlobals mg → mg d.name = some (.ref fa) →
      ∃ fd : FuncData, (∀ (s : Shared) (u : Value), BindsTo s fd ⟨[u], []⟩ [(x, u)]) ∧
        ∀ base : Heap, (K w.params).In base → base.Ns mainGlobals mg → (∀ q ∈ cs, LamX.TabB base mg q.1 q.2) → FnG l.prog w (K w.params) mg base CX0 k fa fd [x] (sp w))
    (hsp : ∀ (w : World) (H : Hp) (a : Addr) (ns : List Int), ns.length ≤ n → SqL (K w.params) H a (ns.map V.int) → (∀ q ∈ cs, H q.2 = some (.tbl #[])) → sp w [.ref a] H (fun v _ => v = .bl true) E0) :
    PySem.W.WalkO q loose XP YP l.row.toRowW d [] (fun f vs => PySem.call f vs) := by
  refine Att.attach_callB hn hdf ?_
  intro w s₀ s₁ mg mb fa o pm cd doc a vs ns G Y ho hd hcd hmg hobj hints hlen hbits hgen
  obtain ⟨fd, hb, hF⟩ := F w mg fa _ (hY w _ Y) G.T.g hmg
  exact law_callTG (hY w _ Y) G.T.g G.T.b G.T.builtins G.T.nolimit hgen hobj (hT w _ Y) (hK w).1 (hK w).2 G.T.bmain hints (Nat.le_trans hlen hn2) hr hF hb fun H hS ht => hsp w H a ns hlen hS ht
end Cr
/-! k21: what the top has left, gathered -/
namespace Cr
open PySem PySem.Spec PyProof.Rows L2 Evl
/-- the classmethod of, as the head tells it -/
def OfK (K : PySem.W.Frag) (C : Addr) : Prop := ∃ (q f : Addr) (od an : Option Addr) (sl : Array (Option Value)) (oc kV dc pm cd ct : Value) (rest : List Value),
  PySem.W.findCls K (.ref C) (.type "type") "of" = some (.get (.builtin "classmethod.__get__") (.ref q) .none (.ref C)) ∧ PySem.W.recIn K q "classmethod" = some (.ref f :: rest) ∧ PySem.W.fnIn K f = true ∧
  K.lookup f = some ⟨oc, od, .func (PySem.W.fnOf "of" "Needs.of" (defArgs sNOf) (defBody sNOf) (defScope sNOf) .none kV dc pm an cd ct), sl⟩ ∧ PySem.W.codeIn K cd "Needs.of" = true ∧ PySem.W.keepIn K (.ref f) = true
theorem ofK {K : PySem.W.Frag} {C q f : Addr} {od an : Option Addr} {sl : Array (Option Value)} {oc kV dc pm cd ct : Value} {rest : List Value} (a : PySem.W.findCls K (.ref C) (.type "type") "of" = some (.get (.builtin "classmethod.__get__") (.ref q) .none (.ref C))) (r : PySem.W.recIn K q "classmethod" = some (.ref f :: rest)) (i : PySem.W.fnIn K f = true)
    (l : K.lookup f = some ⟨oc, od, .func (PySem.W.fnOf "of" "Needs.of" (defArgs sNOf) (defBody sNOf) (defScope sNOf) .none kV dc pm an cd ct), sl⟩) (c : PySem.W.codeIn K cd "Needs.of" = true) (k : PySem.W.keepIn K (.ref f) = true) : OfK K C := ⟨q, f, od, an, sl, oc, kV, dc, pm, cd, ct, rest, a, r, i, l, c, k⟩
theorem all_mk {P : Program} {w : World} {K : PySem.W.Frag} {mg : Str → Option Value} {h : Heap} {fa CN CD CL CM CT C o1 o2 P1 P2 : Addr} {tL : Tok} (X : K.In h) (G : h.Ns mainGlobals mg) (hfa : mg "law" = some (.ref fa)) (B : Blt mg)
    (v1 : PySem.W.nsIn K mainGlobals "LONGEST_NAME" = some (some (.int 8 tL)))
    (c0 : PySem.W.nsIn K mainGlobals "InvalidName" = some (some (.ref CN))) (e0 : ErrK P K CN xbV "InvalidName.__init__" "value" sIInvalidName)
    (c1 : PySem.W.nsIn K mainGlobals "NoNeed" = some (some (.ref CD))) (e1 : ErrK P K CD xbL "NoNeed.__init__" "source" sINoNeed) (s2 : PySem.W.findIn K (.ref CD) "target" = some none)
    (c2 : PySem.W.nsIn K mainGlobals "LoaderError" = some (some (.ref CL))) (c3 : PySem.W.nsIn K mainGlobals "UnknownModule" = some (some (.ref CM))) (c4 : PySem.W.nsIn K mainGlobals "UnknownThread" = some (some (.ref CT)))
    (ecN : ExcC K CN) (ecD : ExcC K CD) (sN : PySem.W.findIn K (.ref CN) "value" = some none) (sD : PySem.W.findIn K (.ref CD) "source" = some none)
    (xNN : PySem.W.exmOne K (.ref CN) (.ref CN) = some true) (xDN : PySem.W.exmOne K (.ref CD) (.ref CN) = some false) (xDD : PySem.W.exmOne K (.ref CD) (.ref CD) = some true)
    (nL : PySem.W.kitOne K (.ref CN) (.ref CL) = some true) (nV : PySem.W.kitOne K (.ref CN) (.type "ValueError") = some true) (nK : PySem.W.kitOne K (.ref CN) (.type "LookupError") = some false)
    (dL : PySem.W.kitOne K (.ref CD) (.ref CL) = some false) (dM : PySem.W.kitOne K (.ref CD) (.ref CM) = some false) (dT : PySem.W.kitOne K (.ref CD) (.ref CT) = some false) (dK : PySem.W.kitOne K (.ref CD) (.type "LookupError") = some true)
    (cF : PySem.W.nsIn K mainGlobals "Needs" = some (some (.ref C))) (kF : Cls K C) (mF : PySem.W.makesIn K C = true) (pF : PySem.W.keepIn K (.ref C) = true) (nN : NoAttr K C "needed")
    (dName : DefAt K "is_name" sIsName) (dBW : DefAt K "bare_word" sBareW) (dCop : DefAt K "copied" sCopied) (dChk : DefAt K "check_name" sCheckN)
    (mI : MethAt K C "__init__" "Needs.__init__" sNInit) (mL : MethAt K C "__len__" "Needs.__len__" sNLen) (mRe : MethAt K C "__repr__" "Needs.__repr__" sNRepr) (mSt : MethAt K C "__str__" "Needs.__str__" sNStr) (mT : MethAt K C "targets" "Needs.targets" sNTarg) (mN : MethAt K C "is_need" "Needs.is_need" sNIs) (mS : MethAt K C "sources" "Needs.sources" sNSrc) (mP : MethAt K C "pairs" "Needs.pairs" sNPairs)
    (mR : MethAt K C "record" "Needs.record" sNRec) (mA : MethAt K C "delete_all" "Needs.delete_all" sNDelA) (mD : MethAt K C "delete" "Needs.delete" sNDel)
    (mEq : MethAt K C "__eq__" "Needs.__eq__" sNEq) (qn : PySem.W.findIn K (.ref C) "__ne__" = some (some (.builtin "object.__ne__"))) (qo : PySem.W.mroIn K C (.type "object") = some true) (q1 : PySem.W.subIn K (.ref C) (.type "NoneType") = some false) (q2 : PySem.W.subIn K (.ref C) (.type "int") = some false) (q3 : PySem.W.subIn K (.ref C) (.type "str") = some false) (q4 : PySem.W.subIn K (.ref C) (.type "list") = some false) (q5 : PySem.W.subIn K (.ref C) (.type "tuple") = some false) (q6 : PySem.W.subIn K (.ref C) (.type "dict") = some false)
    (w1 : PySem.W.findIn K (.ref C) "__class__" = some (some (.builtin "object.__class__"))) (w2 : PySem.W.specialIn K (.builtin "object.__class__") "__get__" = some (some (.builtin "getset_descriptor.__get__"))) (w3 : PySem.W.takesIn K (.builtin "object.__class__") = some true) (w4 : PySem.W.kitOne K (.ref C) (.ref C) = some true)
    (x1 : PySem.W.kitOne K (.type "NoneType") (.ref C) = some false) (x2 : PySem.W.kitOne K (.type "int") (.ref C) = some false) (x3 : PySem.W.kitOne K (.type "str") (.ref C) = some false) (x4 : PySem.W.kitOne K (.type "list") (.ref C) = some false) (x5 : PySem.W.kitOne K (.type "tuple") (.ref C) = some false) (x6 : PySem.W.kitOne K (.type "dict") (.ref C) = some false)
    (r1 : PySem.W.readsIn K C (.type "type") = true) (r2 : PySem.W.specialIn K (.ref C) "__getattribute__" = some (some (.builtin "type.__getattribute__"))) (mO : OfK K C)
    (dPot : DefAt K "_law_pot" sPot) (dDraw : DefAt K "_law_draw" sDraw) (dPick : DefAt K "_law_choice" sChoice) (dWord : DefAt K "_law_word" sWord1) (dWords : DefAt K "_law_words" sWords1) (dOdd : DefAt K "_law_odd" sOdd) (dErr : DefAt K "_law_error" sErr) (dOR : DefAtC K "_law_odd_right" sOR (.ref o1)) (dMR : DefAtC K "_law_made_right" sMR (.ref o2)) (dDR : DefAt K "_law_deed_right" sDR) (dSta : DefAt K "_law_stands" sSta) (dLaw : DefAt K "law" sLaw) (ne : P1 ≠ P2) :
    ∃ fd : FuncData, (∀ (s : Shared) (v : Value), BindsTo s fd ⟨[v], []⟩ [("_law_script", v)]) ∧ ∀ base : Heap, K.In base → base.Ns mainGlobals mg → (∀ q ∈ [(o1, P1), (o2, P2)], LamX.TabB base mg q.1 q.2) → FnG P w K mg base CX0 12 fa fd ["_law_script"] (spLaw K [(P1, qOR), (P2, qMR)]) := by
  have gL := PySem.W.mg_of X G v1
  have T : NdC K mg C := ⟨kF, nN, PySem.W.mg_of X G cF⟩
  have Er : ErrQ K mg CN CD CL CM CT := ⟨PySem.W.mg_of X G c0, PySem.W.mg_of X G c1, PySem.W.mg_of X G c2, PySem.W.mg_of X G c3, PySem.W.mg_of X G c4, ecN, ecD, sN, sD, s2, xNN, xDN, xDD, nL, nV, nK, dL, dM, dT, dK⟩
  obtain ⟨g0, cdg, Tr⟩ : ∃ g0 cdg, TryDef K mg g0 cdg := by
    obtain ⟨f, od, an, sl, oc, kV, dc, pm, cd, ct, a, l, c, k⟩ := dErr
    exact ⟨f, cd, PySem.W.mg_of X G a, k, ⟨oc, od, an, kV, dc, pm, ct, sl, l⟩, c⟩
  obtain ⟨fL, od, an, sl, oc, kV, dc, pm, cd, ct, aL, lL, cL, kL⟩ := dLaw
  have el := hfa.symm.trans (PySem.W.mg_of X G aL)
  cases el
  have FL := fun_mk (st := sLaw) lL cL kL
  refine ⟨PySem.W.fnOf "law" "law" (defArgs sLaw) (defBody sLaw) (defScope sLaw) .none kV dc pm an cd ct, fun s v => .of_eq rfl, fun base _ _ TB => ?_⟩
  have TB1 := TB (o1, P1) List.mem_cons_self
  have TB2 := TB (o2, P2) (List.mem_cons_of_mem _ List.mem_cons_self)
  have cp : HasO P w K mg base 3 "copied" ["value"] (spCopied 3) := copied_all X G dCop B 3
  obtain ⟨f0, fd0, E0'⟩ := errAt_of (mg := mg) X G c0 e0
  have MN : MkErr P w K mg base 4 CN "InvalidName" 1 (spInitC CN "value" 3) := mkErr_of E0' rfl (ok_iInvalidName E0' B cp) (fun _ _ _ _ _ _ _ us hl => match us, hl with | [_, _], _ => rfl)
  obtain ⟨f1, fd1, E1'⟩ := errAt_of (mg := mg) X G c1 e1
  have MD : MkErr P w K mg base 4 CD "NoNeed" 2 (spInitB CD "source" "target" 3) := mkErr_of E1' rfl (ok_iNoNeed E1' s2 B cp) (fun _ _ _ _ _ _ _ us hl => match us, hl with | [_, _, _], _ => rfl)
  -- the program's defs
  have hName : HasO P w K mg base 1 "is_name" ["value"] (spD isName) := hasO_mk X G dName (fun _ _ _ _ _ _ us hl => match us, hl with | [_], _ => rfl) fun f fd F => ok_isName F B gL
  have hBW : HasO P w K mg base 1 "bare_word" ["word"] spBareW := hasO_mk X G dBW (fun _ _ _ _ _ _ us hl => match us, hl with | [_], _ => rfl) fun f fd F => ok_bareW F
  have hChk : HasE P w K mg base 6 "check_name" ["value"] (spCheckN CN 3) := hasE_mk X G dChk (fun _ _ _ _ _ _ us hl => match us, hl with | [_], _ => rfl) fun f fd F => ok_checkN (j := 4) F (by decide) MN (hName.up (by decide))
  -- the methods
  have hT : HasM P w K mg base CX0 2 C "targets" ["self", "name"] (spTargets C) := hasM_mk mT (fun _ _ _ _ _ _ us hl => match us, hl with | [_, _], _ => rfl) fun f fd F => ok_targets F B T hName
  have hN : HasM P w K mg base CX0 3 C "is_need" ["self", "source", "target"] (spIsNeed C) := hasM_mk mN (fun _ _ _ _ _ _ us hl => match us, hl with | [_, _, _], _ => rfl) fun f fd F => ok_isNeed F T (hName.up (by decide)) hT
  have hS : HasM P w K mg base CX0 4 C "sources" ["self", "name"] (spSources C) := hasM_mk mS (fun _ _ _ _ _ _ us hl => match us, hl with | [_, _], _ => rfl) fun f fd F => ok_sources F B T hN
  have hP : HasM P w K mg base CX0 1 C "pairs" ["self"] (spPairs C) := hasM_mk mP (fun _ _ _ _ _ _ us hl => match us, hl with | [_], _ => rfl) fun f fd F => ok_pairs F B T
  have hR : HasM P w K mg base (L2.CX P w) 7 C "record" ["self", "source", "target"] (spRecord C CN 3) := hasM_mk mR (fun _ _ _ _ _ _ us hl => match us, hl with | [_, _, _], _ => rfl) fun f fd F => ok_record F B T hChk (hBW.up (by decide)) (hT.up (by decide)) (hN.up (by decide))
  have hA : HasM P w K mg base CX0 3 C "delete_all" ["self", "source"] (spDelAll C) := hasM_mk mA (fun _ _ _ _ _ _ us hl => match us, hl with | [_, _], _ => rfl) fun f fd F => ok_delAll F B T hT
  have hD : HasM P w K mg base (L2.CX P w) 6 C "delete" ["self", "source", "target"] (spDel C CD 3) := hasM_mk mD (fun _ _ _ _ _ _ us hl => match us, hl with | [_, _, _], _ => rfl) fun f fd F => ok_del (j := 4) F B T (by decide) MD (hN.up (by decide))
  have hLen : HasLenN P w K mg base 3 C (spNLen C) := by
    obtain ⟨f, od, an, sl, oc, kV, dc, pm, cd, ct, a, i, l, c, kp, t⟩ := mL
    have F := fun_mk (st := sNLen) l c kp
    exact ⟨⟨f, _, fnUp (ok_nlen F B T hP) (by decide : 2 ≤ 3), F.binds (fun _ _ _ _ _ _ us hl => match us, hl with | [_], _ => rfl), a, t⟩⟩
  have hRe : ∀ j, 2 ≤ j → HasTxt P w K mg base j C "__repr__" (spNRepr C) := fun j hj => by
    obtain ⟨f, od, an, sl, oc, kV, dc, pm, cd, ct, a, i, l, c, kp, t⟩ := mRe
    have F := fun_mk (st := sNRepr) l c kp
    exact ⟨⟨f, _, (ok_nrepr F T hP).up hj, F.binds (fun _ _ _ _ _ _ us hl => match us, hl with | [_], _ => rfl), a, i⟩⟩
  have hSt : HasTxt P w K mg base 2 C "__str__" (spNStr C) := by
    obtain ⟨f, od, an, sl, oc, kV, dc, pm, cd, ct, a, i, l, c, kp, t⟩ := mSt
    have F := fun_mk (st := sNStr) l c kp
    exact ⟨⟨f, _, ok_nstr F T hP, F.binds (fun _ _ _ _ _ _ us hl => match us, hl with | [_], _ => rfl), a, i⟩⟩
  have hMk : ∀ j, MkN P w K mg base (j + 1) C := fun j => by
    obtain ⟨f, od, an, sl, oc, kV, dc, pm, cd, ct, a, i, l, c, kp, t⟩ := mI
    have F := fun_mk (st := sNInit) l c kp
    exact ⟨⟨f, _, ⟨mF, a, i, pF⟩, ok_ninit (k := j) F T, F.binds (fun _ _ _ _ _ _ us hl => match us, hl with | [_], _ => rfl)⟩⟩
  have hE : ∀ j, HasEqN P w K mg base (j + 1) C := fun j => by
    obtain ⟨f, od, an, sl, oc, kV, dc, pm, cd, ct, a, i, l, c, kp, t⟩ := mEq
    have F := fun_mk (st := sNEq) l c kp
    exact ⟨⟨f, _, ok_neq (k := j) F B T ⟨kF, w1, w2, w3, qo, w4⟩ ⟨x1, x2, x3, x4, x5, x6⟩, F.binds (fun _ _ _ _ _ _ us hl => match us, hl with | [_, _], _ => rfl), ⟨a, i, qn, qo, q1, q2, q3, q4, q5, q6⟩⟩⟩
  have hO : OfAt P w K mg base 8 C CN := by
    obtain ⟨q, f, od, an, sl, oc, kV, dc, pm, cd, ct, rest, a, r, i, l, c, k⟩ := mO
    have F := fun_mk (st := sNOf) l c k
    exact ⟨⟨.type "type", q, f, ⟨r1, r2⟩, ⟨a, ⟨rest, r⟩, i⟩, ok_of (k := 7) F T (by decide) (by decide) (hMk 5) hR⟩⟩
  -- the law's defs
  have lPot : Has P w K mg base 1 "_law_pot" ["_law_script", "_law_index"] (spPot K) := has_mk X G dPot (fun _ _ _ _ _ _ us hl => match us, hl with | [_, _], _ => rfl) fun f fd F => ok_pot F B
  have lDraw : Has P w K mg base 1 "_law_draw" ["_law_pot_here", "_law_bound"] spDraw := has_mk X G dDraw (fun _ _ _ _ _ _ us hl => match us, hl with | [_, _], _ => rfl) fun f fd F => ok_draw F B
  have lPick : Has P w K mg base 2 "_law_choice" ["_law_pot_here", "_law_options"] spChoice := has_mk X G dPick (fun _ _ _ _ _ _ us hl => match us, hl with | [_, _], _ => rfl) fun f fd F => ok_choice F B lDraw
  have lWord : Has P w K mg base 2 "_law_word" ["_law_pot_here", "_law_used"] spWord := has_mk X G dWord (fun _ _ _ _ _ _ us hl => match us, hl with | [_, _], _ => rfl) fun f fd F => ok_word1 F B lDraw
  have lWords : Has P w K mg base 3 "_law_words" ["_law_pot_here", "_law_number"] spWords := has_mk X G dWords (fun _ _ _ _ _ _ us hl => match us, hl with | [_, _], _ => rfl) fun f fd F => ok_words1 F B lWord
  have lOdd : Has P w K mg base 3 "_law_odd" ["_law_pot_here"] (spDrawn OddD) := has_mk X G dOdd (fun _ _ _ _ _ _ us hl => match us, hl with | [_], _ => rfl) fun f fd F => ok_odd F lPick
  have lOR : Has P w K mg base 10 "_law_odd_right" ["_law_pot_here", "_law_made", "_law_rows", "_law_names"] (spOddR C [(P1, qOR), (P2, qMR)]) := has_mkC X G dOR (fun _ _ _ _ _ _ us hl => match us, hl with | [_, _, _, _], _ => rfl) fun f fd F => ok_oddR (k := 7) F B T Er Tr TB1 ne.symm (lPick.up (by decide)) (lOdd.up (by decide)) hR (hD.up (by decide)) (hT.up (by decide)) (hS.up (by decide)) (hA.up (by decide))
  have lMR : Has P w K mg base 11 "_law_made_right" ["_law_pot_here", "_law_names"] (spMadeR [(P1, qOR), (P2, qMR)]) := has_mkC X G dMR (fun _ _ _ _ _ _ us hl => match us, hl with | [_, _], _ => rfl) fun f fd F => ok_madeR (k := 8) F B T Er Tr TB2 ne (lPick.up (by decide)) (lOdd.up (by decide)) hO (hMk 8) (hP.up (by decide)) (hE 8)
  have lDR : Has P w K mg base 11 "_law_deed_right" ["_law_pot_here", "_law_made", "_law_rows", "_law_names"] (spDeed C [(P1, qOR), (P2, qMR)]) := has_mk X G dDR (fun _ _ _ _ _ _ us hl => match us, hl with | [_, _, _, _], _ => rfl) fun f fd F => ok_deed (k := 10) F B T (lDraw.up (by decide)) (lPick.up (by decide)) lOR (hR.up (by decide)) (hA.up (by decide)) (hD.up (by decide))
  have lSt : Has P w K mg base 5 "_law_stands" ["_law_made", "_law_rows", "_law_names"] (spSta C) := has_mk X G dSta (fun _ _ _ _ _ _ us hl => match us, hl with | [_, _, _], _ => rfl) fun f fd F => ok_sta (k := 2) F B T (hP.up (by decide)) hLen (hRe 3 (by decide)) hSt (hT.up (by decide)) (hS.up (by decide))
  exact ok_law (k := 10) FL B T (lPot.up (by decide)) (lDraw.up (by decide)) (lWords.up (by decide)) lMR (hMk 9) lDR (lSt.up (by decide))
end Cr
open PySem PySem.W PyProof.Rows
set_option maxRecDepth 100000 in
set_option maxHeartbeats 0 in
theorem PySem.Challenge.cw_cycleready_k21_needs_recorded_and_delete_holds : PySem.Challenge.rw_cycleready_k21_needs_recorded_and_delete.Holds := by
  w_on; o_law; k_head; (case hw => w_witness2)
  k_fill
  refine Cr.walkTG (l := PySem.Challenge.rw_cycleready_k21_needs_recorded_and_delete) (n := 63) (k := 12) (x := "_law_script") (cs := [(368, 364), (373, 371)]) (sp := fun w => Cr.spLaw _ [(364, Cr.qOR), (371, Cr.qMR)]) rfl (by decide) rfl ⟨rfl, by decide, by decide⟩ (fun w h Y => PySem.W.km_in_of Y) (fun w h Y q hq => PySem.W.km_tabs_of Y q.2 ?tb) (fun w => ⟨?nt, ?cd⟩) ?F (fun _ _ a ns hl hS ht => ⟨a, ns, rfl, hS, hl, ?ts, fun _ => rfl⟩)
  case tb => simp only [List.mem_cons, List.not_mem_nil, or_false] at hq; rcases hq with rfl | rfl <;> simp
  case nt => refine' List.forall_mem_cons.mpr ⟨?nt1, List.forall_mem_cons.mpr ⟨?nt2, fun _ h => nomatch h⟩⟩; (case nt1 => show List.lookup (364 : Addr) _ = none; kernel_rfl); (case nt2 => show List.lookup (371 : Addr) _ = none; kernel_rfl)
  case cd => refine' List.forall_mem_cons.mpr ⟨?cd1, List.forall_mem_cons.mpr ⟨?cd2, fun _ h => nomatch h⟩⟩; (case cd1 => show PySem.W.codeHdIn _ 368 364 = true; kernel_rfl); (case cd2 => show PySem.W.codeHdIn _ 373 371 = true; kernel_rfl)
  case ts => refine' List.forall_mem_cons.mpr ⟨?ts1, List.forall_mem_cons.mpr ⟨?ts2, fun _ h => nomatch h⟩⟩; (case ts1 => exact LamX.TabS.nil (ht _ List.mem_cons_self)); (case ts2 => exact LamX.TabS.nil (ht _ (List.mem_cons_of_mem _ List.mem_cons_self)))
  case F =>
    intro w mg fa h KX G hmg
    have B : Cr.Blt mg := by
      constructor
      · exact PySem.W.mg_none_of KX G (by k_is)
      · exact PySem.W.mg_none_of KX G (by k_is)
      · exact PySem.W.mg_none_of KX G (by k_is)
      · exact PySem.W.mg_none_of KX G (by k_is)
      · exact PySem.W.mg_none_of KX G (by k_is)
      · exact PySem.W.mg_none_of KX G (by k_is)
      · exact PySem.W.mg_none_of KX G (by k_is)
      · exact PySem.W.mg_none_of KX G (by k_is)
      · exact PySem.W.mg_none_of KX G (by k_is)
      · exact PySem.W.mg_none_of KX G (by k_is)
      · exact PySem.W.mg_none_of KX G (by k_is)
      · exact PySem.W.mg_none_of KX G (by k_is)
      · exact PySem.W.mg_none_of KX G (by k_is)
      · exact PySem.W.mg_none_of KX G (by k_is)
      · exact PySem.W.mg_none_of KX G (by k_is)
      · exact PySem.W.mg_none_of KX G (by k_is)
      · exact PySem.W.mg_none_of KX G (by k_is)
      · exact PySem.W.mg_none_of KX G (by k_is)
      · exact PySem.W.mg_none_of KX G (by k_is)
      · exact PySem.W.mg_none_of KX G (by k_is)
      · exact PySem.W.mg_none_of KX G (by k_is)
      · exact PySem.W.mg_none_of KX G (by k_is)
      · exact PySem.W.mg_none_of KX G (by k_is)
      · exact PySem.W.mg_none_of KX G (by k_is)
      · exact PySem.W.mg_none_of KX G (by k_is)
      · exact PySem.W.mg_none_of KX G (by k_is)
    refine' Cr.all_mk (P1 := 364) (P2 := 371) (o1 := 368) (o2 := 373) (P := PySem.Challenge.pw_cycleready_k21_needs_recorded_and_delete) KX G hmg B ?p_v1 ?p_c0 ?p_e0 ?p_c1 ?p_e1 ?p_s2 ?p_c2 ?p_c3 ?p_c4 ?p_ecN ?p_ecD ?p_sN ?p_sD ?p_xNN ?p_xDN ?p_xDD ?p_nL ?p_nV ?p_nK ?p_dL ?p_dM ?p_dT ?p_dK ?p_cF ?p_kF ?p_mF ?p_pF ?p_nN ?p_dName ?p_dBW ?p_dCop ?p_dChk ?p_mI ?p_mL ?p_mRe ?p_mSt ?p_mT ?p_mN ?p_mS ?p_mP ?p_mR ?p_mA ?p_mD ?p_mEq ?p_qn ?p_qo ?p_q1 ?p_q2 ?p_q3 ?p_q4 ?p_q5 ?p_q6 ?p_w1 ?p_w2 ?p_w3 ?p_w4 ?p_x1 ?p_x2 ?p_x3 ?p_x4 ?p_x5 ?p_x6 ?p_r1 ?p_r2 ?p_mO ?p_dPot ?p_dDraw ?p_dPick ?p_dWord ?p_dWords ?p_dOdd ?p_dErr ?p_dOR ?p_dMR ?p_dDR ?p_dSta ?p_dLaw ?p_ne
    (case p_v1 => k_is)
    (case p_c0 => k_is)
    (case p_e0 => refine' Cr.errK ?zi ?zl ?zc ?zs ?zt ?zp; (case zi => k_is); (case zl => k_is); (case zc => k_is); (case zs => refine' Cr.supG_mk ?xo ?xa ?xb ?xc ?xd ?xe ?xf ?xg ?xh ?xi; (case xo => refine' Cr.oexG_mk Cr.xbV_ok ?y1 ?y2 ?y3 ?y4 ?y5 ?y6; (case y1 => k_is); (case y2 => first | rfl | kernel_rfl | k_is); (case y3 => k_is); (case y4 => k_is); (case y5 => k_is); (case y6 => k_is)); (case xa => k_is); (case xb => first | rfl | k_is); (case xc => first | rfl | decide +kernel); (case xd => k_is); (case xe => k_is); (case xf => k_is); (case xg => first | ks_is | k_is); (case xh => k_is); (case xi => first | rfl | decide +kernel)); (case zt => k_is); (case zp => k_is))
    (case p_c1 => k_is)
    (case p_e1 => refine' Cr.errK ?zi ?zl ?zc ?zs ?zt ?zp; (case zi => k_is); (case zl => k_is); (case zc => k_is); (case zs => refine' Cr.supG_mk ?xo ?xa ?xb ?xc ?xd ?xe ?xf ?xg ?xh ?xi; (case xo => refine' Cr.oexG_mk Cr.xbL_ok ?y1 ?y2 ?y3 ?y4 ?y5 ?y6; (case y1 => k_is); (case y2 => first | rfl | kernel_rfl | k_is); (case y3 => k_is); (case y4 => k_is); (case y5 => k_is); (case y6 => k_is)); (case xa => k_is); (case xb => first | rfl | k_is); (case xc => first | rfl | decide +kernel); (case xd => k_is); (case xe => k_is); (case xf => k_is); (case xg => first | ks_is | k_is); (case xh => k_is); (case xi => first | rfl | decide +kernel)); (case zt => k_is); (case zp => k_is))
    (case p_s2 => k_is)
    (case p_c2 => k_is)
    (case p_c3 => k_is)
    (case p_c4 => k_is)
    (case p_ecN => refine' ⟨?h1, ?h2, ?h3, ?h4, ?h5, ?h6, ?h7, ?h8⟩; (case h1 => k_is); (case h2 => k_is); (case h3 => k_is); (case h4 => k_is); (case h5 => k_is); (case h6 => k_is); (case h7 => k_is); (case h8 => k_is))
    (case p_ecD => refine' ⟨?h1, ?h2, ?h3, ?h4, ?h5, ?h6, ?h7, ?h8⟩; (case h1 => k_is); (case h2 => k_is); (case h3 => k_is); (case h4 => k_is); (case h5 => k_is); (case h6 => k_is); (case h7 => k_is); (case h8 => k_is))
    (case p_sN => k_is)
    (case p_sD => k_is)
    (case p_xNN => refine' PySem.W.exm_ref ?h1 ?h2 ?h3 ?h4; (case h1 => k_is); (case h2 => k_is); (case h3 => k_is); (case h4 => k_is))
    (case p_xDN => refine' PySem.W.exm_ref ?h1 ?h2 ?h3 ?h4; (case h1 => k_is); (case h2 => k_is); (case h3 => k_is); (case h4 => k_is))
    (case p_xDD => refine' PySem.W.exm_ref ?h1 ?h2 ?h3 ?h4; (case h1 => k_is); (case h2 => k_is); (case h3 => k_is); (case h4 => k_is))
    (case p_nL => kit_is)
    (case p_nV => kit_is)
    (case p_nK => kit_is)
    (case p_dL => kit_is)
    (case p_dM => kit_is)
    (case p_dT => kit_is)
    (case p_dK => kit_is)
    (case p_cF => k_is)
    (case p_kF => refine' ⟨?h1, ?h2, ?h3, ?h4⟩; (case h1 => k_is); (case h2 => k_is); (case h3 => k_is); (case h4 => k_is))
    (case p_mF => k_is)
    (case p_pF => k_is)
    (case p_nN => show PySem.W.findIn _ _ _ = some none; k_is)
    (case p_dName => refine' Cr.defAt ?a ?l ?c ?k; (case a => k_is); (case l => k_is); (case c => k_is); (case k => k_is))
    (case p_dBW => refine' Cr.defAt ?a ?l ?c ?k; (case a => k_is); (case l => k_is); (case c => k_is); (case k => k_is))
    (case p_dCop => refine' Cr.defAt ?a ?l ?c ?k; (case a => k_is); (case l => k_is); (case c => k_is); (case k => k_is))
    (case p_dChk => refine' Cr.defAt ?a ?l ?c ?k; (case a => k_is); (case l => k_is); (case c => k_is); (case k => k_is))
    (case p_mI => refine' Cr.methAt ?a ?i ?l ?c ?k ?t; (case a => k_is); (case i => k_is); (case l => k_is); (case c => k_is); (case k => k_is); (case t => k_is))
    (case p_mL => refine' Cr.methAt ?a ?i ?l ?c ?k ?t; (case a => k_is); (case i => k_is); (case l => k_is); (case c => k_is); (case k => k_is); (case t => k_is))
    (case p_mRe => refine' Cr.methAt ?a ?i ?l ?c ?k ?t; (case a => k_is); (case i => k_is); (case l => k_is); (case c => k_is); (case k => k_is); (case t => k_is))
    (case p_mSt => refine' Cr.methAt ?a ?i ?l ?c ?k ?t; (case a => k_is); (case i => k_is); (case l => k_is); (case c => k_is); (case k => k_is); (case t => k_is))
    (case p_mT => refine' Cr.methAt ?a ?i ?l ?c ?k ?t; (case a => k_is); (case i => k_is); (case l => k_is); (case c => k_is); (case k => k_is); (case t => k_is))
    (case p_mN => refine' Cr.methAt ?a ?i ?l ?c ?k ?t; (case a => k_is); (case i => k_is); (case l => k_is); (case c => k_is); (case k => k_is); (case t => k_is))
    (case p_mS => refine' Cr.methAt ?a ?i ?l ?c ?k ?t; (case a => k_is); (case i => k_is); (case l => k_is); (case c => k_is); (case k => k_is); (case t => k_is))
    (case p_mP => refine' Cr.methAt ?a ?i ?l ?c ?k ?t; (case a => k_is); (case i => k_is); (case l => k_is); (case c => k_is); (case k => k_is); (case t => k_is))
    (case p_mR => refine' Cr.methAt ?a ?i ?l ?c ?k ?t; (case a => k_is); (case i => k_is); (case l => k_is); (case c => k_is); (case k => k_is); (case t => k_is))
    (case p_mA => refine' Cr.methAt ?a ?i ?l ?c ?k ?t; (case a => k_is); (case i => k_is); (case l => k_is); (case c => k_is); (case k => k_is); (case t => k_is))
    (case p_mD => refine' Cr.methAt ?a ?i ?l ?c ?k ?t; (case a => k_is); (case i => k_is); (case l => k_is); (case c => k_is); (case k => k_is); (case t => k_is))
    (case p_mEq => refine' Cr.methAt ?a ?i ?l ?c ?k ?t; (case a => k_is); (case i => k_is); (case l => k_is); (case c => k_is); (case k => k_is); (case t => k_is))
    (case p_qn => k_is)
    (case p_qo => k_is)
    (case p_q1 => k_is)
    (case p_q2 => k_is)
    (case p_q3 => k_is)
    (case p_q4 => k_is)
    (case p_q5 => k_is)
    (case p_q6 => k_is)
    (case p_w1 => k_is)
    (case p_w2 => k_is)
    (case p_w3 => k_is)
    (case p_w4 => kit_is)
    (case p_x1 => kit_is)
    (case p_x2 => kit_is)
    (case p_x3 => kit_is)
    (case p_x4 => kit_is)
    (case p_x5 => kit_is)
    (case p_x6 => kit_is)
    (case p_r1 => k_is)
    (case p_r2 => k_is)
    (case p_mO => refine' Cr.ofK ?a ?r ?i ?l ?c ?k; (case a => k_is); (case r => k_is); (case i => k_is); (case l => k_is); (case c => k_is); (case k => k_is))
    (case p_dPot => refine' Cr.defAt ?a ?l ?c ?k; (case a => k_is); (case l => k_is); (case c => k_is); (case k => k_is))
    (case p_dDraw => refine' Cr.defAt ?a ?l ?c ?k; (case a => k_is); (case l => k_is); (case c => k_is); (case k => k_is))
    (case p_dPick => refine' Cr.defAt ?a ?l ?c ?k; (case a => k_is); (case l => k_is); (case c => k_is); (case k => k_is))
    (case p_dWord => refine' Cr.defAt ?a ?l ?c ?k; (case a => k_is); (case l => k_is); (case c => k_is); (case k => k_is))
    (case p_dWords => refine' Cr.defAt ?a ?l ?c ?k; (case a => k_is); (case l => k_is); (case c => k_is); (case k => k_is))
    (case p_dOdd => refine' Cr.defAt ?a ?l ?c ?k; (case a => k_is); (case l => k_is); (case c => k_is); (case k => k_is))
    (case p_dErr => refine' Cr.defAt ?a ?l ?c ?k; (case a => k_is); (case l => k_is); (case c => k_is); (case k => k_is))
    (case p_dOR => refine' Cr.defAtC ?a ?l ?c ?k; (case a => k_is); (case l => k_is); (case c => k_is); (case k => k_is))
    (case p_dMR => refine' Cr.defAtC ?a ?l ?c ?k; (case a => k_is); (case l => k_is); (case c => k_is); (case k => k_is))
    (case p_dDR => refine' Cr.defAt ?a ?l ?c ?k; (case a => k_is); (case l => k_is); (case c => k_is); (case k => k_is))
    (case p_dSta => refine' Cr.defAt ?a ?l ?c ?k; (case a => k_is); (case l => k_is); (case c => k_is); (case k => k_is))
    (case p_dLaw => refine' Cr.defAt ?a ?l ?c ?k; (case a => k_is); (case l => k_is); (case c => k_is); (case k => k_is))
    (case p_ne => decide)
