import PyProof.Rows.All
import Wide.All
import OpenK.AllK
import Wide.FinOn
import PyProof.ReprRoads
import KE.GoesMore
import HandS.ForMost
import HandS.Evl
import HandS.IsInst
import HandS.Zip
import HandS.WideBits
import HandS.EndBits
import HandS.More
import HandS.Walk
import HandS.TupAny
import HandS.ExcInit
import HandS.ExcIs
import HandS.ExcField
import HandS.WordsExc
import KE.KExcSuper
import KE.KExcInit
import HandS.ExcOwn
import PyProof.ExcBaseAll.LookupError
import HandS.OwnEq
import HandS.NamedTupGet
import HandS.CallSlots
import HandS.Defaults
import HandS.MakeKwOnly
import HandS.FStr
import KE.KExcIs
import HandS.Style
import HandS.DictComp
import KE.SortData
import PyProof.Rows.StrMeet
import PyProof.Rows.SortWalk
import HandS.Small
import HandS.HotCalls
import KE.KEqDict
import PyProof.NeKinds
import KE.Datum
import HandS.SetFor
import HandS.ClsMeth
import HandS.Base
import HandS.TupSets
import HandS.Set
import HandS.SetBool
import PyProof.Rows.SortStr
import HandS.Strs
import PyProof.P3In
import KE.DataMinMax
import HandS.Comp
import HandS.List
import HandS.Dict
import HandS.Star
import HandS.TryOnly
import KE.KUnpackStar
import HandS.Text
import HandS.StrMore
import PyProof.StrBlock2
import HandS.DictTup
import HandS.ListItems
import HandS.Finally
import HandS.Lambda
import HandS.EndTab
import KE.KNestM
import PySem.Challenge.RW_cycleready_k44_exports
set_option Elab.async false
set_option linter.all false
set_option maxRecDepth 100000
set_option maxHeartbeats 4000000
/-! Cr, part 1: promises of defs that hold where no repr is under way (so that repr may be asked inside of them). -/
namespace Cr
open PySem PySem.Spec PyProof.Rows L2 Evl
/-- nothing is being shown around -/
abbrev Quiet (A : Around) : Prop := A.guards = some []
/-- a def's promise, kept where it is quiet -/
structure FnG (P : Program) (w : World) (K : PySem.W.Frag) (mg : Str → Option Value) (base : Heap) (CX : CXT) (k : Nat) (f : Addr) (fd : FuncData) (ps : List Str) (sp : Sp) : Prop where
  sized : ∀ vs H Q E, sp vs H Q E → vs.length = ps.length
  goes : ∀ (A : Around) (outer : List Env) (s : Shared) (H : Hp) (args : Args) (us : List Value) (vs : List V) (Q : VK) (E : XK),
    Quiet A → Room k A → Env0 P w K mg base A outer s H → BindsTo s fd args (ps.zip us) → Vals vs us → sp vs H Q E →
    codeAny (model P w) A (.call (.ref f) args) (CR CX outer P w H s Q E) s
section
variable {P : Program} {w : World} {K : PySem.W.Frag} {mg : Str → Option Value} {base : Heap}
theorem FnG.up {CX : CXT} {j k : Nat} {f : Addr} {fd : FuncData} {ps : List Str} {sp : Sp}
    (F : FnG P w K mg base CX j f fd ps sp) (le : j ≤ k) : FnG P w K mg base CX k f fd ps sp :=
  ⟨F.sized, fun A outer s H args us vs Q E hq hr e hb r h => F.goes A outer s H args us vs Q E hq (hr.mono le) e hb r h⟩
/-- a def by its body, where it is quiet -/
theorem okG {x qual : Str} {st : Stmt} {f : Addr} {fd : FuncData} {N ps : List Str} {k : Nat} {sp : Sp}
    (F : Fun K x qual st f fd) (S : FnScope N ps (defScope st)) (len : ∀ vs H Q E, sp vs H Q E → vs.length = ps.length)
    (hbody : ∀ (cdv : Value) (A : Around) (outer : List Env) (s : Shared) (H : Hp) (vs : List V) (Q : VK) (E : XK),
      Quiet (A.deeper (envOfC qual (defScope st) s.heap.objs.size f cdv)) →
      Room k (A.deeper (envOfC qual (defScope st) s.heap.objs.size f cdv)) → sp vs H Q E →
      ∃ t, PSs (cxOf CX0 P w K mg base N qual (defScope st) f cdv A outer s H E).nox (defBody st) t ∧
        t { nx := fun _ H' => Q .non H', rt := Q } (start N vs) H) :
    FnG P w K mg base CX0 (k + 1) f fd ps sp := by
  obtain ⟨oc, od, kV, doc, pm, an, cdv, ct, osl, rfl, lk, hcd⟩ := F.ex
  refine ⟨len, fun A outer s H args us vs Q E hq hr e0 hb r hsp => ?_⟩
  have keepB : ∀ b o, base.get? b = some o → s.heap.get? b = some o := fun b o e => (e0.bs b o e).1
  have kinds : ((ps.zip us).all fun y => (defScope st).names.lookup y.1 == some .local || (defScope st).names.lookup y.1 == some .cell) = true := by
    refine List.all_eq_true.mpr fun y hy => ?_
    obtain ⟨n, v⟩ := y
    rcases S.par n (List.of_mem_zip hy).1 with z | z
    · simp [z]
    · simp [z]
  refine Att.call_fn (binds := ps.zip us) (e0.mod.kin.keeps keepB) (e0.mod.nolimit.keeps keepB) lk hcd hr.depth hb kinds (fun s1 IC => ?_) S.co S.gen S.kind
  obtain ⟨t, ht, hT⟩ := hbody cdv A outer s H vs Q E hq (hr.deeper _) hsp
  have I := inv_start (CX := CX0) (E := E) S hr.hd e0 (len _ _ _ _ hsp) r IC
  refine wpAny_mono (ht.nox.run [] s1 (start N vs) H _ I hT) (fun fl s2 h2 => ?_) fun e s2 h2 => h2
  match fl, h2 with
  | .ret u, ⟨v, σ2, H2, J, rv, q⟩ => exact ⟨v, H2, J.os, J.bare, J.base, J.hok, rv, q⟩
  | .next, ⟨σ2, H2, J, q⟩ => exact ⟨V.non, H2, J.os, J.bare, J.base, J.hok, rfl, q⟩
  | .brk, ⟨_, _, _, q⟩ => exact q.elim
  | .cont, ⟨_, _, _, q⟩ => exact q.elim
end
section
variable {X : Cx} {CX : CXT} {k : Nat} {f : Addr} {fd : FuncData} {ps : List Str} {sp : Sp} {dvs : List V} {ds : List Value} {E : XK}
/-- the callee, called where it is quiet -/
theorem runG {pins : List (Addr × Obj)} {σ : L2.St} {H : Hp} {s : Shared} {Q : VK} {us : List Value} {vs : List V}
    (F : FnG X.prog X.w X.K X.mg X.base CX k f fd ps sp) (hq : Quiet X.A) (hr : Room k X.A) (hb : Binds X.K fd ps ds) (hd : Vals dvs ds)
    (hx : Passes CX X E) (I : Inv X pins σ H s) (r : Vals vs us) (h : sp (vs ++ dvs) H Q E) :
    wpAny (model X.prog X.w) X.A (call (.ref f) us) (EP X pins σ Q) X.xe s := by
  have rr : Vals (vs ++ dvs) (us ++ ds) := Vals.append r hd
  have nn : (us ++ ds).length = ps.length := rr.length.symm.trans (F.sized _ _ _ _ h)
  have c := F.goes X.A X.stack s H ⟨us, []⟩ (us ++ ds) (vs ++ dvs) Q E hq hr (Inv.env0 I) (hb s us I.kIn nn) rr h
  refine wpAny_call (codeAny_mono c fun res s2 z => ?_)
  match res, z with
  | .error e, z => exact hx pins σ H s e s2 I z
  | .ok (.ret u), z => exact Inv.after I z
  | .ok .next, z => exact False.elim z
  | .ok .brk, z => exact False.elim z
  | .ok .cont, z => exact False.elim z
variable {x : Str} {p pos : Pos} {e : Expr} {es : List Expr} {t : TA}
theorem callG (F : FnG X.prog X.w X.K X.mg X.base CX k f fd ps sp) (hq : Quiet X.A) (hr : Room k X.A) (hg : Gl X x)
    (hm : X.mg x = some (.ref f)) (hk : PySem.W.keepIn X.K (.ref f) = true) (hb : Binds X.K fd ps ds) (hd : Vals dvs ds) (hx : Passes CX X E)
    (ha : PA X (e :: es) t) (hdb : (x == ("__debug__" : Str)) = false := by decide)
    (he : starEach (e :: es) X.env = (false, eval e X.env) :: starEach es X.env := by rfl)
    (hpl : (backTo pos (starEach es X.env)).any (·.1) = false := by rfl) :
    PE X (.Call (.Name x p) (e :: es) [] pos) (tCall sp dvs E t) := by
  constructor
  intro pins s σ H Q I h
  refine wpAny_Call_Name_kw (ld_glob I hg hm ?_ hdb)
  refine PySem.W.callWith_K (h₀ := X.base) I.ok.mod.kin hk ?_ he hpl
  refine thn (ha.run pos pins s σ H _ I h) ?_
  rintro us s1 ⟨vs, H1, I1, r, q⟩
  exact ⟨I1.kIn, runG F hq hr hb hd hx I1 r q⟩
end
/-! ### the law's own call -/
theorem law_callG {P : Program} {w : World} {K : PySem.W.Frag} {mg mb : Str → Option Value} {k : Nat} {fa a : Addr} {fd : FuncData} {x : Str} {sp : Sp} {s₁ : Shared} {vs : List Value} {ns : List Int}
    (KX : K.In s₁.heap) (hns : s₁.heap.Ns mainGlobals mg) (hb : s₁.heap.Ns builtinsNs mb) (hbb : ∀ x : Str, x ≠ "__name__" → mb x = bootBuiltins x)
    (hlim : s₁.heap.NoLimit) (hg : s₁.gens = #[]) (ha : s₁.heap.get? a = some { cls := .type "list", data := .seq vs.toArray })
    (hi : IntsAre vs ns) (hl : ns.length ≤ sizeLine) (hr : Room k callerA)
    (F : ∀ base : Heap, K.In base → base.Ns mainGlobals mg → FnG P w K mg base CX0 k fa fd [x] sp)
    (hbind : ∀ (s : Shared) (u : Value), BindsTo s fd ⟨[u], []⟩ [(x, u)])
    (hsp : ∀ H : Hp, SqL K H a (ns.map V.int) → sp [.ref a] H (fun v _ => v = .bl true) E0) :
    codeAny (model P w) callerA (.call (.ref fa) ⟨[.ref a], []⟩) (fun r s' => r = .ok (.ret (.bool true)) ∧ OldK s₁.heap s'.heap ∧ s'.os = s₁.os ∧ AllBare s'.gens) s₁ := by
  have rv := vals_ints hi
  have lenV := hi.length
  have core : ∀ H : Hp, (∀ b, H b = none ∨ (b = a ∧ H b = some (.frz { cls := .type "list", data := .seq vs.toArray } (.lst (ns.map V.int))) ∧ K.lookup a = none)) →
      SqL K H a (ns.map V.int) →
      codeAny (model P w) callerA (.call (.ref fa) ⟨[.ref a], []⟩) (fun r s' => r = .ok (.ret (.bool true)) ∧ OldK s₁.heap s'.heap ∧ s'.os = s₁.os ∧ AllBare s'.gens) s₁ := by
    intro H hO hS
    have hok : HOk P w H s₁.heap := fun b u z => by
      rcases hO b with q | ⟨rfl, q, _⟩
      · rw [q] at z; cases z
      · rw [q] at z; cases z
        exact ⟨ha, by rw [List.length_map]; exact hl, vs, _, rv, ha⟩
    have keepN : ∀ {b : Addr} {m : Str → Option Value}, s₁.heap.Ns b m → (hidT s₁.heap H).Ns b m := fun {b m} z => by
      obtain ⟨o, es, ep, e, d, r⟩ := z
      refine ⟨o, es, ep, hidT_get e ?_, d, r⟩
      rcases hO b with q | ⟨rfl, q, _⟩
      · exact q
      · rw [ha] at e
        cases e
        have d' : Data.seq vs.toArray _ = Data.dict es ep := d
        cases d'
    have keepK : K.In (hidT s₁.heap H) := fun b o e => by
      refine hidT_get (KX b o e) ?_
      rcases hO b with q | ⟨rfl, q, n⟩
      · exact q
      · rw [n] at e; cases e
    have hM : Mod K mg (hidT s₁.heap H) := by
      obtain ⟨mc, l1, l2⟩ := hlim
      exact ⟨keepK, keepN hns, ⟨mb, keepN hb, hbb⟩, ⟨mc, keepN l1, l2⟩⟩
    have e0 : Env0 P w K mg (hidT s₁.heap H) callerA [] s₁ H :=
      { frames := rfl, mod := hM, bs := fun b o e => of_hidT e, bsz := Nat.le_of_eq (hidT_size _ _), funs := trivial,
        frf := fun b z => absurd (show b ∈ ([] : List Addr) from z) List.not_mem_nil, hok := hok, bare := .of_eq hg }
    have go := (F _ keepK (keepN hns)).goes callerA [] s₁ H ⟨[.ref a], []⟩ [.ref a] [.ref a] _ _ rfl hr e0 (hbind s₁ (.ref a)) (.cons rfl .nil) (hsp H hS)
    refine codeAny_mono go fun res s2 z => ?_
    match res, z with
    | .error e, z => exact z.elim
    | .ok .next, z => exact False.elim z
    | .ok .brk, z => exact False.elim z
    | .ok .cont, z => exact False.elim z
    | .ok (.ret u), ⟨v, H2, os, bare, un, hok2, rel, q⟩ =>
      have qv : v = .bl true := q
      subst qv
      obtain rfl : u = Value.bool true := rel
      refine ⟨rfl, OldK.of_keep fun b o e => ?_, os, bare⟩
      rcases hO b with z | ⟨rfl, z, _⟩
      · exact un.keep b o e z (fun y => absurd (show b ∈ ([] : List Addr) from y) List.not_mem_nil) List.not_mem_nil
      · obtain ⟨g1, _⟩ := hok2 b _ (un.frzs b _ _ z)
        rw [ha] at e
        cases e
        exact g1
  cases hk : K.lookup a with
  | some o =>
    have e := KX a o hk
    rw [ha] at e
    cases e
    exact core (fun _ => none) (fun _ => .inl rfl) (.inr ⟨_, vs.toArray, _, hk, rfl, rfl, rfl, by rw [List.size_toArray, lenV]; exact hl, by simpa using rv⟩)
  | none =>
    refine core (fun b => if b = a then some (.frz { cls := .type "list", data := .seq vs.toArray } (.lst (ns.map V.int))) else none) (fun b => ?_) (.inl (.inr ⟨_, if_pos rfl⟩))
    by_cases hb : b = a
    · exact .inr ⟨hb, if_pos hb, hk⟩
    · exact .inl (if_neg hb)
/-- the end of a law row, the script's bits told -/
theorem walkG {l : PySem.W.OpenLaw} {n k : Nat} {q : Program} {loose : List Str} {XP : (Str → Option Value) → Heap → Prop} {YP : World → Heap → Prop} {d : DefRec} {K : Params → PySem.W.Frag} {sp : World → Sp} {x : Str}
    (hn : l.most = some n) (hn2 : n ≤ sizeLine) (hdf : d.params.defaults = []) (hr : Room k callerA)
    (hY : ∀ (w : World) (h : Heap), YP w h → (K w.params).In h)
    (F : ∀ (w : World) (mg : Str → Option Value) (fa : Addr) (h : Heap), (K w.params).In h → h.Ns mainGlobals mg → mg d.name = some (.ref fa) →
      ∃ fd : FuncData, (∀ (s : Shared) (u : Value), BindsTo s fd ⟨[u], []⟩ [(x, u)]) ∧
        ∀ base : Heap, (K w.params).In base → base.Ns mainGlobals mg → FnG l.prog w (K w.params) mg base CX0 k fa fd [x] (sp w))
    (hsp : ∀ (w : World) (H : Hp) (a : Addr) (ns : List Int), ns.length ≤ n → (∀ z ∈ ns, Builtin.Int.intBits z ≤ 1048576) →
      SqL (K w.params) H a (ns.map V.int) → sp w [.ref a] H (fun v _ => v = .bl true) E0) :
    PySem.W.WalkO q loose XP YP l.row.toRowW d [] (fun f vs => PySem.call f vs) := by
  refine Att.attach_callB hn hdf ?_
  intro w s₀ s₁ mg mb fa o pm cd doc a vs ns G Y ho hd hcd hmg hobj hints hlen hbits hgen
  obtain ⟨fd, hb, hF⟩ := F w mg fa _ (hY w _ Y) G.T.g hmg
  exact law_callG (hY w _ Y) G.T.g G.T.b G.T.builtins G.T.nolimit hgen hobj hints (Nat.le_trans hlen hn2) hr hF hb
    (fun H hS => hsp w H a ns hlen hbits hS)
end Cr
/-! Cr, part 2: data in the abstract heap, repr of it, isinstance of it. -/
namespace Cr
open PySem PySem.Spec PyProof.Rows L2 Evl
def kD : Key → PyData
  | .inl i => .int i
  | .inr x => .str x
mutual
/-- the value v is the data d, all of it tracked -/
inductive Dt (H : Hp) : V → PyData → Prop
  | non : Dt H .non .none
  | bl (b : Bool) : Dt H (.bl b) (.bool b)
  | int (i : Int) : Dt H (.int i) (.int i)
  | str (x : Str) : Dt H (.str x) (.str x)
  | lst {a : Addr} {xs : List V} {ds : List PyData} : H a = some (.lst xs) → DtAll H xs ds → Dt H (.ref a) (.list ds)
  | tup {a : Addr} {xs : List V} {ds : List PyData} : H a = some (.tup xs) → DtAll H xs ds → Dt H (.ref a) (.tuple ds)
  | dct {a : Addr} {kvs : List (Key × V)} {es : List (PyData × PyData)} : H a = some (.dK kvs) → DtKv H kvs es → Dt H (.ref a) (.dict es)
inductive DtAll (H : Hp) : List V → List PyData → Prop
  | nil : DtAll H [] []
  | cons {v : V} {vs : List V} {d : PyData} {ds : List PyData} : Dt H v d → DtAll H vs ds → DtAll H (v :: vs) (d :: ds)
inductive DtKv (H : Hp) : List (Key × V) → List (PyData × PyData) → Prop
  | nil : DtKv H [] []
  | cons {k : Key} {v : V} {kvs : List (Key × V)} {d : PyData} {es : List (PyData × PyData)} : Dt H v d → DtKv H kvs es → DtKv H ((k, v) :: kvs) ((kD k, d) :: es)
end
mutual
theorem Dt.ex {H H' : Hp} (e : Ex H H') : ∀ {v : V} {d : PyData}, Dt H v d → Dt H' v d
  | _, _, .non => .non
  | _, _, .bl b => .bl b
  | _, _, .int i => .int i
  | _, _, .str x => .str x
  | _, _, .lst h a => .lst (e _ _ h) (DtAll.ex e a)
  | _, _, .tup h a => .tup (e _ _ h) (DtAll.ex e a)
  | _, _, .dct h a => .dct (e _ _ h) (DtKv.ex e a)
theorem DtAll.ex {H H' : Hp} (e : Ex H H') : ∀ {vs : List V} {ds : List PyData}, DtAll H vs ds → DtAll H' vs ds
  | _, _, .nil => .nil
  | _, _, .cons h t => .cons (Dt.ex e h) (DtAll.ex e t)
theorem DtKv.ex {H H' : Hp} (e : Ex H H') : ∀ {kvs : List (Key × V)} {es : List (PyData × PyData)}, DtKv H kvs es → DtKv H' kvs es
  | _, _, .nil => .nil
  | _, _, .cons h t => .cons (Dt.ex e h) (DtKv.ex e t)
end
theorem DtAll.length {H : Hp} : ∀ {vs : List V} {ds : List PyData}, DtAll H vs ds → vs.length = ds.length
  | _, _, .nil => rfl
  | _, _, .cons _ t => by simp [DtAll.length t]
theorem DtKv.len {H : Hp} : ∀ {kvs : List (Key × V)} {ds : List (PyData × PyData)}, DtKv H kvs ds → kvs.length = ds.length
  | _, _, .nil => rfl
  | _, _, .cons _ t => by simp [DtKv.len t]
theorem DtAll.get {H : Hp} : ∀ {vs : List V} {ds : List PyData} {i : Nat} {v : V}, DtAll H vs ds → vs[i]? = some v → ∃ d, ds[i]? = some d ∧ Dt H v d
  | _, _, _, _, .nil, h => by simp at h
  | _, _, 0, _, .cons h _, e => by simp at e; subst e; exact ⟨_, rfl, h⟩
  | _, _, i + 1, _, .cons _ t, e => by
    obtain ⟨d, h1, h2⟩ := DtAll.get (i := i) t (by simpa using e)
    exact ⟨d, by simpa using h1, h2⟩
theorem DtAll.append {H : Hp} : ∀ {vs ws : List V} {ds es : List PyData}, DtAll H vs ds → DtAll H ws es → DtAll H (vs ++ ws) (ds ++ es)
  | _, _, _, _, .nil, s => s
  | _, _, _, _, .cons h t, s => .cons h (DtAll.append t s)
theorem DtAll.drop {H : Hp} : ∀ {vs : List V} {ds : List PyData} (n : Nat), DtAll H vs ds → DtAll H (vs.drop n) (ds.drop n)
  | _, _, 0, h => h
  | _, _, _ + 1, .nil => .nil
  | _, _, n + 1, .cons _ t => DtAll.drop n t
theorem DtAll.take {H : Hp} : ∀ {vs : List V} {ds : List PyData} (n : Nat), DtAll H vs ds → DtAll H (vs.take n) (ds.take n)
  | _, _, 0, _ => .nil
  | _, _, _ + 1, .nil => .nil
  | _, _, n + 1, .cons h t => .cons h (DtAll.take n t)
theorem DtAll.set {H : Hp} {v : V} {d : PyData} (hv : Dt H v d) : ∀ {vs : List V} {ds : List PyData} (n : Nat), DtAll H vs ds → DtAll H (vs.set n v) (ds.set n d)
  | _, _, _, .nil => .nil
  | _, _, 0, .cons _ t => .cons hv t
  | _, _, n + 1, .cons h t => .cons h (DtAll.set hv n t)
/-! ### the heap without one object -/
def wo (p : Addr) (H : Hp) : Hp := fun a => if a = p then none else H a
theorem wo_ne {p a : Addr} {H : Hp} (h : a ≠ p) : wo p H a = H a := if_neg h
theorem wo_same {p : Addr} {H : Hp} : wo p H p = none := if_pos rfl
theorem wo_some {p a : Addr} {H : Hp} {o : HO} (h : wo p H a = some o) : a ≠ p ∧ H a = some o := by
  by_cases e : a = p
  · subst e
    rw [wo_same] at h
    cases h
  · rw [wo_ne e] at h
    exact ⟨e, h⟩
theorem wo_ex (p : Addr) (H : Hp) : Ex (wo p H) H := fun a o h => (wo_some h).2
theorem Ex.wo {p : Addr} {H H' : Hp} (e : Ex H H') : Ex (Cr.wo p H) (Cr.wo p H') := fun a o h => by
  obtain ⟨n, h⟩ := wo_some h
  rw [wo_ne n]
  exact e a o h
theorem wo_upd {p : Addr} {H H' : Hp} {o : HO} (e : Ex (wo p H) (wo p H')) : Ex (wo p H) (wo p (upd H' p o)) := fun a u h => by
  have n := (wo_some h).1
  have q := e a u h
  rw [wo_ne n] at q
  rw [wo_ne n, upd_ne n]
  exact q
/-! ### the kind of data -/
def tyT : PyData → String
  | .none => "NoneType"
  | .bool _ => "bool"
  | .int _ => "int"
  | .str _ => "str"
  | .list _ => "list"
  | .tuple _ => "tuple"
  | .dict _ => "dict"
theorem Dt.ty {K : PySem.W.Frag} {H : Hp} {v : V} {d : PyData} (h : Dt H v d) : TyX K H v (.type (tyT d)) := by
  cases h with
  | non => exact .base .non
  | bl b => exact .base (.bl b)
  | int i => exact .base (.int i)
  | str x => exact .base (.str x)
  | lst h _ => exact .base (.lst h)
  | tup h _ => exact .base (.tup h)
  | dct h _ => exact .base (.dK h)
/-- isinstance(v, T), T one of the plain types -/
def isTs (T t : String) : Bool := t == T || (T == "int" && t == "bool")
def isT (T : String) (d : PyData) : Bool := isTs T (tyT d)
theorem kitS : ∀ t ∈ ["NoneType", "bool", "int", "str", "list", "tuple", "dict"], ∀ T ∈ ["int", "bool", "str", "list", "tuple", "dict"], kitB t T = some (isTs T t) := by decide +kernel
theorem tyT_mem (d : PyData) : tyT d ∈ ["NoneType", "bool", "int", "str", "list", "tuple", "dict"] := by
  cases d <;> simp [tyT]
theorem kit_isT {K : PySem.W.Frag} {T : String} (hT : T ∈ ["int", "bool", "str", "list", "tuple", "dict"]) (d : PyData) :
    PySem.W.kitOne K (.type (tyT d)) (.type T) = some (isT T d) := kit_ty (kitS _ (tyT_mem d) _ hT)
/-- isinstance on data -/
theorem rc_isi {K : PySem.W.Frag} {H : Hp} {v : V} {d : PyData} {T : String} (h : Dt H v d) (hT : T ∈ ["int", "bool", "str", "list", "tuple", "dict"]) :
    RC (rIsi K) [v, .ty T] H (.bl (isT T d)) := fun H1 e Q q =>
  ⟨v, .ty T, .type (tyT d), .type T, isT T d, rfl, .ty T, (Dt.ex e h).ty, kit_isT hT d, q H1 (Ex.refl H1)⟩
/-! ### repr -/
section
variable {X : Cx} {pins : List (Addr × Obj)} {σ : L2.St} {H : Hp} {s : Shared}
/-- what is shown of a value, at any heap that keeps this one -/
def Shown (P : Program) (w : World) (h : Heap) (v : Value) (d : PyData) : Prop :=
  (∃ as, Reads h v d as) ∧ (d.showable = true → d.shown.length ≤ sizeLine → ∃ bs, ReadAtMost h d.depth bs ∧ ReprK P w bs h d.depth v d.shown)
def ShownAll (P : Program) (w : World) (h : Heap) (vs : List Value) (ds : List PyData) : Prop :=
  (∃ as, ReadsAll h vs ds as) ∧ (PyData.showableAll ds = true → (∀ t ∈ PyData.shownAll ds, t.length ≤ sizeLine) →
    ∃ bs, ReadAtMost h (PyData.depthAll ds) bs ∧ ReprAllK P w bs h (PyData.depthAll ds) vs (PyData.shownAll ds))
theorem ShownAll.nil {P : Program} {w : World} {h : Heap} : ShownAll P w h [] [] :=
  ⟨⟨_, .nil⟩, fun _ _ => ⟨[], (fun _ z => nomatch z), by rw [PyData.shownAll]; exact .nil⟩⟩
theorem ShownAll.cons {P : Program} {w : World} {h : Heap} {v : Value} {vs : List Value} {d : PyData} {ds : List PyData} (a : Shown P w h v d) (b : ShownAll P w h vs ds) : ShownAll P w h (v :: vs) (d :: ds) := by
  obtain ⟨⟨as, ra⟩, sa⟩ := a
  obtain ⟨⟨bs, rb⟩, sb⟩ := b
  refine ⟨⟨_, .cons ra rb⟩, fun hs hz => ?_⟩
  rw [PyData.showableAll, Bool.and_eq_true] at hs
  rw [PyData.shownAll] at hz
  obtain ⟨b1, m1, k1⟩ := sa hs.1 (hz _ (List.mem_cons_self ..))
  obtain ⟨b2, m2, k2⟩ := sb hs.2 fun t ht => hz t (List.mem_cons_of_mem _ ht)
  refine ⟨b1 ++ b2, ?_, ?_⟩
  · rw [PyData.depthAll]
    exact (m1.mono (Nat.le_max_left _ _)).append (m2.mono (Nat.le_max_right _ _))
  · rw [PyData.depthAll, PyData.shownAll]
    exact .cons ((k1.more fun b hb => List.mem_append_left _ hb).level_le (Nat.le_max_left _ _)) (k2.more_le (fun b hb => List.mem_append_right _ hb) (Nat.le_max_right _ _))
theorem Shown.list {P : Program} {w : World} {h : Heap} {a : Addr} {o : Obj} {vs : List Value} {n : Nat} {ds : List PyData} (g : h.get? a = some o) (c : o.cls = .type "list") (e : o.data = .seq vs.toArray n) (S : ShownAll P w h vs ds) : Shown P w h (.ref a) (.list ds) := by
  obtain ⟨⟨as, ra⟩, sa⟩ := S
  have R : Reads h (.ref a) (.list ds) (a :: as) := .list g c e (by simpa using ra)
  refine ⟨⟨_, R⟩, fun hs hz => ?_⟩
  rw [PyData.showable] at hs
  rw [PyData.shown] at hz
  obtain ⟨bs, m, k⟩ := sa hs fun t ht => Nat.le_trans (listText_mem_le ht) hz
  have no : a ∉ bs := not_mem_of_deeper R (by rw [PyData.depth]; omega) m
  refine ⟨a :: bs, ReadAtMost.cons R (by rw [PyData.depth]; omega) m, ?_⟩
  rw [PyData.depth, PyData.shown]
  cases vs with
  | nil =>
    cases ra
    rw [PyData.shownAll, listText_nil]
    exact ReprK.listEmpty g c e
  | cons x l => exact ReprK.list g c e no (by simpa using k.length_eq) fun i y q => k.item i y (by simpa using q)
theorem Shown.tuple {P : Program} {w : World} {h : Heap} {a : Addr} {o : Obj} {vs : List Value} {n : Nat} {ds : List PyData} (g : h.get? a = some o) (c : o.cls = .type "tuple") (e : o.data = .seq vs.toArray n) (S : ShownAll P w h vs ds) : Shown P w h (.ref a) (.tuple ds) := by
  obtain ⟨⟨as, ra⟩, sa⟩ := S
  have R : Reads h (.ref a) (.tuple ds) as := .tuple g c e (by simpa using ra)
  refine ⟨⟨_, R⟩, fun hs hz => ?_⟩
  rw [PyData.showable] at hs
  rw [PyData.shown] at hz
  obtain ⟨bs, m, k⟩ := sa hs fun t ht => Nat.le_trans (tupleText_mem_le ht) hz
  refine ⟨a :: bs, ReadAtMost.cons R (by rw [PyData.depth]; omega) m, ?_⟩
  rw [PyData.depth, PyData.shown]
  exact ReprK.tuple g c e (not_mem_of_deeper R (by rw [PyData.depth]; omega) m) (by simpa using k)
theorem Shown.dict {P : Program} {w : World} {h : Heap} {a : Addr} {o : Obj} {es : Array DictEntry} {n : Nat} {kvs : List (PyData × PyData)} (g : h.get? a = some o) (c : o.cls = .type "dict") (e : o.data = .dict es n) (sys : (a == sysModules) = false)
    (S1 : ShownAll P w h (es.toList.map (·.key)) (kvs.map (·.1))) (S2 : ShownAll P w h (es.toList.map (·.val)) (kvs.map (·.2))) : Shown P w h (.ref a) (.dict kvs) := by
  obtain ⟨⟨as, ra⟩, sa⟩ := S1
  obtain ⟨⟨bs, rb⟩, sb⟩ := S2
  have R : Reads h (.ref a) (.dict kvs) (a :: as ++ bs) := .dict g c e ra rb
  refine ⟨⟨_, R⟩, fun hs hz => ?_⟩
  rw [PyData.showable] at hs
  rw [PyData.shown] at hz
  obtain ⟨h1, h2⟩ := PyData.showableKv_split kvs hs
  obtain ⟨b1, m1, k1⟩ := sa h1 fun t ht => let ⟨p, hp, hl⟩ := PyData.shownKv_key_le kvs t ht; Nat.le_trans hl (Nat.le_trans (dictText_mem_le hp) hz)
  obtain ⟨b2, m2, k2⟩ := sb h2 fun t ht => let ⟨p, hp, hl⟩ := PyData.shownKv_val_le kvs t ht; Nat.le_trans hl (Nat.le_trans (dictText_mem_le hp) hz)
  have m := (m1.mono (PyData.depthAll_keys_le kvs)).append (m2.mono (PyData.depthAll_vals_le kvs))
  refine ⟨a :: (b1 ++ b2), ReadAtMost.cons R (by rw [PyData.depth]; omega) m, ?_⟩
  rw [PyData.depth, PyData.shown, PyData.shownKv_eq]
  refine ReprK.dict g c e sys (not_mem_of_deeper R (by rw [PyData.depth]; omega) m) ?_
  exact ReprEntriesK.of_two es.toList _ _ (k1.more_le (fun b hb => List.mem_append_left _ hb) (PyData.depthAll_keys_le kvs)) (k2.more_le (fun b hb => List.mem_append_right _ hb) (PyData.depthAll_vals_le kvs))
theorem Shown.key {P : Program} {w : World} {h : Heap} {k : Key} {v : Value} (q : keyIs k v = true) : Shown P w h v (kD k) := by
  rcases keyIs_shape q with ⟨i, t, rfl, rfl⟩ | ⟨x, t, rfl, rfl⟩
  · refine ⟨⟨_, Reads.int i t⟩, fun hs _ => ⟨[], (fun _ z => nomatch z), ?_⟩⟩
    simp only [kD, PyData.shown]
    exact .of_is (ReprIs.int t (by simpa [kD, PyData.showable] using hs)) _ _ _
  · refine ⟨⟨_, Reads.str x t⟩, fun _ hz => ⟨[], (fun _ z => nomatch z), ?_⟩⟩
    simp only [kD, PyData.shown] at hz ⊢
    exact .of_is (ReprIs.str x t hz) _ _ _
/-- keys and values of a tracked dict -/
theorem shown_pairs {P : Program} {w : World} {h : Heap} : ∀ {kvs : List (Key × V)} {us : List (Key × Value)} {es : List DictEntry} {ds : List (PyData × PyData)},
    KV kvs us → PySem.Pairs (mixKind P w) es us → (∀ (i : Nat) (k : Key) (v : V) (u : Value), kvs[i]? = some (k, v) → RelV v u → ∃ d, ds[i]? = some (kD k, d) ∧ Shown P w h u d) → kvs.length = ds.length →
    ShownAll P w h (es.map (·.key)) (ds.map (·.1)) ∧ ShownAll P w h (es.map (·.val)) (ds.map (·.2))
  | [], _, _, ds, kv, ps, _, hl => by
    cases kv
    cases ps
    cases ds with
    | nil => exact ⟨.nil, .nil⟩
    | cons x r => simp at hl
  | (k, v) :: r, _, _, ds, kv, ps, hv, hl => by
    cases kv with
    | cons h1 h2 =>
      rename_i q us'
      obtain ⟨e1, rv⟩ := h1
      cases ps with
      | cons p1 p2 p3 =>
        obtain ⟨d, ed, sd⟩ := hv 0 k v q.2 rfl rv
        cases ds with
        | nil => simp at hl
        | cons x ds' =>
          simp at ed
          subst ed
          have ih := shown_pairs h2 p3 (ds := ds') (fun i k' v' u' e r' => by
            obtain ⟨d', g1, g2⟩ := hv (i + 1) k' v' u' (by simpa using e) r'
            exact ⟨d', by simpa using g1, g2⟩) (by simpa using hl)
          have e1' : k = q.1 := e1
          rw [List.map_cons, List.map_cons, List.map_cons, List.map_cons]
          refine ⟨.cons (Shown.key (k := k) ?_) ih.1, .cons ?_ ih.2⟩
          · rw [e1']
            exact p1
          · show Shown P w h _ d
            rw [p2]
            exact sd
mutual
theorem Dt.shown (I : Inv X pins σ H s) : ∀ {v : V} {d : PyData}, Dt H v d → ∀ {u : Value}, RelV v u → Shown X.prog X.w s.heap u d
  | _, _, .non, _, r => by
    cases r
    exact ⟨⟨_, Reads.none⟩, fun _ _ => ⟨[], (fun _ z => nomatch z), by rw [PyData.shown]; exact .of_is ReprIs.none _ _ _⟩⟩
  | _, _, .bl b, _, r => by
    cases r
    exact ⟨⟨_, Reads.bool b⟩, fun _ _ => ⟨[], (fun _ z => nomatch z), by rw [PyData.shown]; exact .of_is (ReprIs.bool b) _ _ _⟩⟩
  | _, _, .int i, _, r => Shown.key (k := .inl i) (by obtain ⟨t, rfl⟩ := r; exact keyIs_int i t)
  | _, _, .str x, _, r => Shown.key (k := .inr x) (by obtain ⟨t, rfl⟩ := r; exact keyIs_str x t)
  | _, _, .lst (a := a) (xs := xs) h t, _, r => by
    cases r
    obtain ⟨_, its, n, rv, g⟩ := (show ObjOk X.prog X.w H s.heap a (.lst xs) from I.hok a _ h)
    exact Shown.list g rfl rfl (DtAll.shown I t rv)
  | _, _, .tup (a := a) (xs := xs) h t, _, r => by
    cases r
    obtain ⟨_, its, rv, o, g, c, n, e⟩ := (show ObjOk X.prog X.w H s.heap a (.tup xs) from I.hok a _ h)
    exact Shown.tuple g c e (DtAll.shown I t rv)
  | _, _, .dct (a := a) (kvs := kvs) (es := ds) h t, _, r => by
    cases r
    obtain ⟨_, sys, us, kv, o, es, ep, g, ex, e, _, ps, _⟩ := (show ObjOk X.prog X.w H s.heap a (.dK kvs) from I.hok a _ h)
    obtain ⟨s1, s2⟩ := shown_pairs kv ps (fun i k v u q r => DtKv.shown I t i k v u q r) (DtKv.len t)
    exact Shown.dict g ex.1 e sys s1 s2
theorem DtAll.shown (I : Inv X pins σ H s) : ∀ {vs : List V} {ds : List PyData}, DtAll H vs ds → ∀ {us : List Value}, Vals vs us → ShownAll X.prog X.w s.heap us ds
  | _, _, .nil, _, r => by
    cases r
    exact .nil
  | _, _, .cons h t, _, r => by
    cases r with
    | cons r1 r2 => exact .cons (Dt.shown I h r1) (DtAll.shown I t r2)
theorem DtKv.shown (I : Inv X pins σ H s) : ∀ {kvs : List (Key × V)} {ds : List (PyData × PyData)}, DtKv H kvs ds → ∀ (i : Nat) (k : Key) (v : V) (u : Value), kvs[i]? = some (k, v) → RelV v u → ∃ d, ds[i]? = some (kD k, d) ∧ Shown X.prog X.w s.heap u d
  | _, _, .nil, _, _, _, _, q, _ => by simp at q
  | _, _, .cons h t, 0, k, v, u, q, r => by
    simp at q
    obtain ⟨rfl, rfl⟩ := q
    exact ⟨_, rfl, Dt.shown I h r⟩
  | _, _, .cons h t, i + 1, k, v, u, q, r => by
    obtain ⟨d, g1, g2⟩ := DtKv.shown I t i k v u (by simpa using q) r
    exact ⟨d, by simpa using g1, g2⟩
end
end
end Cr
/-! Cr, part 3: repr as a rule; zip of a text and a tuple. -/
namespace Cr
open PySem PySem.Spec PyProof.Rows L2 Evl
/-- data whose text is short enough -/
structure Fits (d : PyData) : Prop where
  show1 : d.showable = true
  deep : d.depth ≤ 50
  size : d.shown.length ≤ sizeLine
def rRepr : List V → Hp → VK → Prop := fun xs H Q => ∃ v d, xs = [v] ∧ Dt H v d ∧ Fits d ∧ Q (.str d.shown) H
theorem call_reprG {X : Cx} (hq : Quiet X.A) (hu : X.A.units + 64 < cLine) : CallR X (.builtin "repr") rRepr := by
  intro pins s σ H xs us Q I r h
  obtain ⟨v, d, rfl, hd, fit, q⟩ := h
  obtain ⟨u, rfl, ru⟩ := vals1 r
  have fin : ∀ (h' : Heap) (t tk : Nat), (∀ b o, s.heap.get? b = some o → h'.get? b = some o) → EP X pins σ Q (.str d.shown t) { s with heap := h', toks := tk } :=
    fun h' t tk hk => ⟨.str d.shown, H, I.kept hk, ⟨t, rfl⟩, q⟩
  have dp := fit.deep
  have sz := fit.size
  have sw := fit.show1
  cases hd with
  | non =>
    cases ru
    rw [PyData.shown] at q
    exact PySem.P.repr_of_none ⟨.str _, H, I.tok _, ⟨_, rfl⟩, q⟩
  | bl b =>
    cases ru
    rw [PyData.shown] at q
    exact PySem.P.repr_of_bool ⟨.str _, H, I.tok _, ⟨_, by cases b <;> rfl⟩, q⟩
  | int i =>
    obtain ⟨t, rfl⟩ := ru
    rw [PyData.shown] at q
    exact PySem.P.repr_of_int (by simpa [PyData.showable] using sw) ⟨.str _, H, I.tok _, ⟨_, rfl⟩, q⟩
  | str x =>
    obtain ⟨t, rfl⟩ := ru
    rw [PyData.shown] at q sz
    exact PySem.P.repr_of_str ⟨.str _, H, I.tok _, ⟨_, rfl⟩, q⟩ sz
  | @lst a xs ds h t =>
    cases ru
    obtain ⟨_, its, n, rv, g⟩ := (show ObjOk X.prog X.w H s.heap a (.lst xs) from I.hok a _ h)
    have S : ShownAll X.prog X.w s.heap its ds := DtAll.shown I t rv
    obtain ⟨⟨as, ra⟩, sa⟩ := S
    rw [PyData.showable] at sw
    rw [PyData.depth] at dp
    have R : Reads s.heap (.ref a) (.list ds) (a :: as) := .list g rfl rfl (by simpa using ra)
    rw [PyData.shown] at sz
    obtain ⟨bs, m, k⟩ := sa sw fun t ht => Nat.le_trans (listText_mem_le ht) sz
    have no : a ∉ bs := not_mem_of_deeper R (by rw [PyData.depth]; omega) m
    refine call_repr_slot (by omega) ⟨_, g, rfl⟩ F.slot_list_repr.toG ?_
    cases its with
    | nil =>
      cases ra
      refine call_list_repr_empty ⟨_, g, rfl⟩ g rfl ?_
      refine ⟨_, _, rfl, ?_⟩
      have e : (PyData.list []).shown = ("[]" : Str) := by rw [PyData.shown, PyData.shownAll, listText_nil]
      rw [e] at fin
      exact fin s.heap _ _ fun _ _ z => z
    | cons x l =>
      refine call_list_reprK (s := s) g rfl rfl no (by simpa using k.length_eq) (fun i y e => k.item i y (by simpa using e)) hq (fun b _ => Clear.nil b) (show X.A.units + 1 + (PyData.depthAll ds + 1) < cLine by omega) (fun _ _ z => z) (fun h' t tk hk => ?_) sz
      refine ⟨_, _, rfl, ?_⟩
      have z := fin h' t tk hk
      rw [PyData.shown] at z
      exact z
  | @tup a xs ds h t =>
    cases ru
    obtain ⟨_, its, rv, o, g, c, n, e⟩ := (show ObjOk X.prog X.w H s.heap a (.tup xs) from I.hok a _ h)
    have S : ShownAll X.prog X.w s.heap its ds := DtAll.shown I t rv
    obtain ⟨⟨as, ra⟩, sa⟩ := S
    rw [PyData.showable] at sw
    rw [PyData.depth] at dp
    have R : Reads s.heap (.ref a) (.tuple ds) as := .tuple g c e (by simpa using ra)
    rw [PyData.shown] at sz
    obtain ⟨bs, m, k⟩ := sa sw fun t ht => Nat.le_trans (tupleText_mem_le ht) sz
    have no : a ∉ bs := not_mem_of_deeper R (by rw [PyData.depth]; omega) m
    refine call_repr_slot (by omega) ⟨_, g, c⟩ F.slot_tuple_repr ?_
    refine call_tuple_reprK (s := s) g c e no (by simpa using k) hq (fun b _ => Clear.nil b) (show X.A.units + 1 + (PyData.depthAll ds + 1) < cLine by omega) (fun _ _ z => z) (fun h' t tk hk => ?_) sz
    refine ⟨_, _, rfl, ?_⟩
    have z := fin h' t tk hk
    rw [PyData.shown] at z
    exact z
  | @dct a kvs ds h t =>
    cases ru
    obtain ⟨_, sys, us, kv, o, es, ep, g, ex, e, _, ps, _⟩ := (show ObjOk X.prog X.w H s.heap a (.dK kvs) from I.hok a _ h)
    obtain ⟨s1, s2⟩ := shown_pairs kv ps (fun i k v u q r => DtKv.shown I t i k v u q r) (DtKv.len t)
    obtain ⟨⟨as, ra⟩, sa⟩ := s1
    obtain ⟨⟨bs, rb⟩, sb⟩ := s2
    rw [PyData.showable] at sw
    rw [PyData.depth] at dp
    have R : Reads s.heap (.ref a) (.dict ds) (a :: as ++ bs) := .dict g ex.1 e ra rb
    have sz2 := sz
    rw [PyData.shown] at sz
    obtain ⟨w1, w2⟩ := PyData.showableKv_split ds sw
    obtain ⟨b1, m1, k1⟩ := sa w1 fun t ht => let ⟨p, hp, hl⟩ := PyData.shownKv_key_le ds t ht; Nat.le_trans hl (Nat.le_trans (dictText_mem_le hp) sz)
    obtain ⟨b2, m2, k2⟩ := sb w2 fun t ht => let ⟨p, hp, hl⟩ := PyData.shownKv_val_le ds t ht; Nat.le_trans hl (Nat.le_trans (dictText_mem_le hp) sz)
    have m := (m1.mono (PyData.depthAll_keys_le ds)).append (m2.mono (PyData.depthAll_vals_le ds))
    refine call_repr_slot (by omega) ⟨_, g, ex.1⟩ F.slot_dict_repr ?_
    refine call_dict_reprK (s := s) g ex.1 e sys (not_mem_of_deeper R (by rw [PyData.depth]; omega) m) (ReprEntriesK.of_two es.toList _ _ (k1.more_le (fun b hb => List.mem_append_left _ hb) (PyData.depthAll_keys_le ds)) (k2.more_le (fun b hb => List.mem_append_right _ hb) (PyData.depthAll_vals_le ds)))
      hq (fun b _ => Clear.nil b) (show X.A.units + 1 + (PyData.depthKv ds + 1) < cLine by omega) (fun _ _ z => z) (fun h' t tk hk => ?_) (by rw [← PyData.shownKv_eq]; exact sz)
    refine ⟨_, _, rfl, ?_⟩
    have z := fin h' t tk hk
    rw [PyData.shown, PyData.shownKv_eq] at z
    exact z
end Cr
/-! Cr, part 4: zip of a text and a tuple; comprehensions over any walk. -/
namespace Cr
open PySem PySem.Spec PyProof.Rows L2 Evl
/-- a comprehension over any walk, which may be one of new things -/
theorem el_lcW {wi : TI} {g : TG} {tt : TT} {te : TE} {vs : List Nat} {σ : L2.St} {H : Hp} {n : Nat} {Y : Nat → Hp → V → Hp → Prop}
    (f : Nat → Bool) (v : Nat → V) (hn : n ≤ 40000)
    (hi : ∀ H1, Ex H H1 → ∀ R : It → Hp → Prop, (∀ H2 (J : It) (G : Hp → Prop), Walk J n G Y → (∀ H3 H4, Ex H3 H4 → G H3 → G H4) → Ex H1 H2 → G H2 → R J H2) → wi σ H1 R)
    (hs : ∀ i x H1 H2, Ex H H1 → i < n → Y i H1 x H2 → Ex H1 H2 ∧ ∃ σ2, wipe σ2 vs = wipe σ vs ∧ (∀ R : L2.St → Hp → Prop, R σ2 H2 → g x (wipe σ vs) H2 R) ∧ EvT tt σ2 H2 (f i) ∧ (f i = true → Ev te σ2 H2 (v i))) :
    EvL (tLc wi g tt te vs) σ H (given n f v) := by
  intro H0 e Q q
  refine hi H0 e _ fun H1 J G w hG e1 g1 D hD => ?_
  refine lc_it w (Cw H1 f v D) ⟨hD, Ex.new hD, upd_same⟩ (fun i H2 _ p => hG H1 H2 p.2.1 g1) (fun i x H2 H3 hlt p y => ?_) (fun H2 p => q D H2 (fresh_back e1 p.1) (e1.trans p.2.1) p.2.2)
  obtain ⟨p1, p2, p3⟩ := p
  obtain ⟨e2, σ2, hw, hgo, ht, he⟩ := hs i x H2 H3 ((e.trans e1).trans p2) hlt y
  refine hgo _ ⟨hw, ht H3 (Ex.refl H3) _ fun H4 e4 => ?_⟩
  cases hf : f i with
  | true =>
    rw [if_pos rfl]
    refine he hf H4 e4 _ fun H5 e5 => ⟨given i f v, e5 D _ (e4 D _ (e2 D _ p3)), sz_lt (by have := given_len i f v; omega), p1, Ex.mut (((p2.trans e2).trans e4).trans e5) p1, ?_⟩
    rw [given_yes hf]
    exact upd_same
  | false =>
    rw [if_neg Bool.false_ne_true]
    refine ⟨p1, (p2.trans e2).trans e4, ?_⟩
    rw [given_no hf]
    exact e4 D _ (e2 D _ p3)
end Cr
/-! Cr, part 5: small data, promises of one datum, evaluations that serve many defs. -/
namespace Cr
open PySem PySem.Spec PyProof.Rows L2 Evl
mutual
/-- texts and sequences of moderate size -/
def sm : PyData → Bool
  | .none | .bool _ | .int _ => true
  | .str x => decide (x.length ≤ 1000)
  | .list xs | .tuple xs => decide (xs.length ≤ 1000) && smAll xs
  | .dict _ => true
def smAll : List PyData → Bool
  | [] => true
  | x :: xs => sm x && smAll xs
end
/-- a def that answers a datum with a bool -/
def spD (f : PyData → Bool) : Sp := fun vs H Q _ => ∃ v d, vs = [v] ∧ Dt H v d ∧ sm d = true ∧ ∀ H', Ex H H' → Q (.bl (f d)) H'
theorem spD_len {f : PyData → Bool} : ∀ vs H Q E, spD f vs H Q E → vs.length = 1 := fun vs H Q E h => by
  obtain ⟨v, d, rfl, _⟩ := h
  rfl
theorem spv_D {f : PyData → Bool} {H : Hp} {v : V} {d : PyData} (h : Dt H v d) (s : sm d = true) : SpV (spD f) [v] H (.bl (f d)) := fun H1 e Q q E =>
  ⟨v, d, rfl, Dt.ex e h, s, q⟩
section
variable {K : PySem.W.Frag} {σ : L2.St} {H : Hp} {ta tb tc te : TE} {x y z w v : V} {r r' : R2}
theorem ev_chain {k k' : Bool} (ha : Ev ta σ H x) (hb : Ev tb σ H y) (hr : RV r x y H (.bl k)) (hc : k = true → Ev tc σ H w) (hr' : k = true → RV r' y w H (.bl k')) : Ev (tChain r r' ta tb tc) σ H (.bl (k && k')) := fun H1 e Q q =>
  ha H1 e _ fun H2 e2 => hb H2 (e.trans e2) _ fun H3 e3 => hr H3 ((e.trans e2).trans e3) _ fun H4 e4 => ⟨k, rfl, by
    have e14 := (e2.trans e3).trans e4
    cases k with
    | true =>
      rw [if_pos rfl]
      exact hc rfl H4 (e.trans e14) _ fun H5 e5 => hr' rfl H5 ((e.trans e14).trans e5) Q fun H6 e6 => q H6 ((e14.trans e5).trans e6)
    | false =>
      rw [if_neg Bool.false_ne_true]
      exact q H4 e14⟩
theorem ev_all {bs : List Bool} (h : EvL te σ H (bs.map V.bl)) : Ev (tCB (rAll K) (tCons te tNil)) σ H (.bl (bs.all id)) := fun H1 e Q q =>
  h H1 e _ fun p H2 _ e2 hp => ⟨p, bs, rfl, sq_of hp, q H2 e2⟩
/-- len of a text, of a tracked tuple -/
theorem rc_lenS {s : Str} (h : s.length ≤ 1000) : RC (fun xs H Q => ∃ z, xs = [V.str z] ∧ z.length ≤ sizeLine ∧ Q (.int z.length) H) [.str s] H (.int (s.length : Int)) := fun H1 _ Q q =>
  ⟨s, rfl, sz_of (by omega), q H1 (Ex.refl H1)⟩
theorem rc_lenL {a : Addr} {xs : List V} (h : SqL K H a xs) : RC (fun vs H Q => ∃ p ys, vs = [V.ref p] ∧ (SqL K H p ys ∨ SqT K H p ys) ∧ Q (.int ys.length) H) [.ref a] H (.int (xs.length : Int)) := fun H1 e Q q =>
  ⟨a, xs, rfl, .inl (ex_l e h), q H1 (Ex.refl H1)⟩
end
/-! ### texts -/
def rLeS : R2 := fun x y H Q => ∃ i j, x = .str i ∧ y = .str j ∧ Q (.bl (!decide (j.cps.toList < i.cps.toList))) H
theorem op_leS {X : Cx} : OpR X (compareOp .LtE) rLeS := op_le_str
theorem rv_leS {i j : Str} {H : Hp} : RV rLeS (.str i) (.str j) H (.bl (!decide (j.cps.toList < i.cps.toList))) := fun H1 _ Q q => ⟨i, j, rfl, rfl, q H1 (Ex.refl H1)⟩
theorem one_lt (a b : Nat) : decide ([a] < [b]) = decide (a < b) := by
  by_cases h : a < b
  · rw [decide_eq_true h, decide_eq_true (List.cons_lt_cons_iff.mpr (.inl h))]
  · rw [decide_eq_false h, decide_eq_false]
    intro z
    rcases List.cons_lt_cons_iff.mp z with q | ⟨_, q⟩
    · exact h q
    · exact absurd q (by simp)
def isLow (c : Nat) : Bool := decide (97 ≤ c) && decide (c ≤ 122)
theorem given_all (n : Nat) (v : Nat → V) : given n (fun _ => true) v = (List.range n).map v := by
  unfold given
  rw [List.filter_eq_self.mpr (fun _ _ => rfl)]
theorem all_range {α : Type} (l : List α) (d : α) (p : α → Bool) : ((List.range l.length).map fun i => p (l.getD i d)).all id = l.all p := by
  rw [List.all_map]
  have e : ∀ n, n ≤ l.length → ((List.range n).all fun i => p (l.getD i d)) = (l.take n).all p := by
    intro n
    induction n with
    | zero => intro _; simp
    | succ n ih =>
      intro h
      rw [List.range_succ, List.all_append, ih (by omega), List.take_add_one, List.all_append]
      congr 1
      rw [List.getElem?_eq_getElem (by omega)]
      simp [List.getD, List.getElem?_eq_getElem (show n < l.length by omega)]
  have h := e l.length (Nat.le_refl _)
  rw [List.take_length] at h
  exact h
end Cr
/-! own errors whose making says super().__init__(..) first, over ValueError through classes between -/
namespace Cr
open PySem PySem.Spec PyProof.Rows L2
/-- the names of such a def -/
structure SupScope (N ps : List Str) (sc : Scope) : Prop where
  kind : sc.kind = .function
  co : sc.isCoroutine = false
  gen : sc.isGenerator = false
  nd : N.Nodup
  pre : N.take ps.length = ps
  par : ∀ x ∈ ps, sc.names.lookup x = some .local
  nocell : ∀ y ∈ sc.names, y.2 ≠ .cell
  free : ∀ y ∈ sc.names, y.2 = .free → y.1 = "__class__"
  cls : sc.names.lookup ("__class__" : Str) = some .free
  sup : sc.names.lookup ("super" : Str) = some .globalImplicit
/-- its body's context: no error leaves it -/
def cxSup (P : Program) (w : World) (K : PySem.W.Frag) (mg : Str → Option Value) (base : Heap) (N : List Str) (qual : Str) (scope : Scope) (f cda cc : Addr) (A : Around) (outer : List Env) (s : Shared) (H : Hp) : Cx where
  prog := P
  w := w
  K := K
  mg := mg
  base := base
  A := A.deeper (PySem.W.ksEnv qual scope s.heap.objs.size f (.ref cda) cc)
  N := N
  s_0 := s
  H_0 := H
  env := PySem.W.ksEnv qual scope s.heap.objs.size f (.ref cda) cc
  outer := outer
  stack := PySem.W.ksEnv qual scope s.heap.objs.size f (.ref cda) cc :: outer
  ex := []
  calm := true
  fn := fun _ => false
  pn := []
  xe := fun _ _ => False
theorem look_mem {α : Type} {x : Str} {v : α} : ∀ {l : List (Str × α)}, (l.map (·.1)).Nodup → (x, v) ∈ l → l.lookup x = some v
  | [], _, h => nomatch h
  | (y, u) :: l, nd, h => by
    rcases List.mem_cons.mp h with e | h2
    · cases e; simp [List.lookup]
    · have nd' := List.nodup_cons.mp nd
      have ne : (x == y) = false := by
        refine beq_eq_false_iff_ne.mpr fun z => nd'.1 ?_
        rw [← z]
        exact List.mem_map.mpr ⟨_, h2, rfl⟩
      simp only [List.lookup, ne]
      exact look_mem nd'.2 h2
theorem zip_rev {ps : List Str} {us : List Value} {i : Nat} {x : Str} {u : Value} (nd : ps.Nodup) (h1 : ps[i]? = some x) (h2 : us[i]? = some u) (hl : us.length = ps.length) : (ps.zip us).reverse.lookup x = some u := by
  refine look_mem ?_ ?_
  · rw [List.map_reverse]
    have e : (ps.zip us).map (·.1) = ps := List.map_fst_zip (by omega)
    rw [e]
    exact List.pairwise_reverse.mpr (List.Pairwise.imp (fun h => Ne.symm h) nd)
  · refine List.mem_reverse.mpr ?_
    refine List.mem_of_getElem? (i := i) ?_
    rw [List.getElem?_zip_eq_some]
    exact ⟨h1, h2⟩
section
variable {P : Program} {w : World} {K : PySem.W.Frag} {mg : Str → Option Value} {base : Heap}
theorem inv_sup {N ps : List Str} {qual : Str} {scope : Scope} {f cda cc : Addr} {cl : Value} {cld : Option Addr} {cv : Option Value} {csl : Array (Option Value)} {A : Around} {outer : List Env} {s : Shared} {h₁ : Heap} {tk : Nat} {H : Hp} {us : List Value} {vs : List V}
    (S : SupScope N ps scope) (hd : A.handled = none) (e0 : Env0 P w K mg base A outer s H) (hl : vs.length = ps.length) (r : Vals vs us) (hcell : K.lookup cc = some ⟨cl, cld, .cell cv, csl⟩)
    (hns : h₁.Ns s.heap.objs.size (fun x => (ps.zip us).reverse.lookup x)) (hk : ∀ b o, s.heap.get? b = some o → h₁.get? b = some o) :
    Inv (cxSup P w K mg base N qual scope f cda cc A outer s H) [] (L2.start N vs) H { s with heap := h₁, toks := tk } := by
  have hpl : ps.length ≤ N.length := by have := congrArg List.length S.pre; rw [List.length_take] at this; omega
  have noA : ∀ b : Addr, b ∉ (cxSup P w K mg base N qual scope f cda cc A outer s H).ex := fun b z => absurd (show b ∈ ([] : List Addr) from z) (by simp)
  have one : ∀ {y : Str} {c : Addr}, ([("__class__", cc)] : List (Str × Addr)).lookup y = some c → y = "__class__" ∧ c = cc := fun {y c} h => by
    by_cases z : y = "__class__"
    · subst z
      simp [List.lookup] at h
      exact ⟨rfl, h.symm⟩
    · have e : (y == ("__class__" : Str)) = false := beq_eq_false_iff_ne.mpr z
      simp [List.lookup, e] at h
  have hb := e0.mod.kin _ _ hcell
  have hc1 := e0.bs _ _ hb
  refine ⟨⟨e0.mod, S.kind, rfl, rfl, Nat.le_refl _, fun y z c h1 h2 => (one h1).1.trans (one h2).1.symm, fun y hy => ?_, fun y c z _ => absurd (show false = true from z) (by decide), fun _ => hd, Around.frames_deeper e0.frames, .inr ⟨rfl, rfl⟩, fun b z => absurd z (noA b), e0.bs, e0.bsz, fun b _ _ => noA b, fun b z => absurd z (noA b), e0.funs, e0.frf⟩,
    rfl, e0.bare, Un.kept hk, ⟨_, hns, fun i y v h1 h2 h3 => ?_⟩, fun y c h => ?_, e0.hok.fresh (Nat.le_refl _), fun y c h => ?_, fun p hp => absurd (show p ∈ ([] : List (Addr × Obj)) from hp) (by simp), e0.hok.kept hk, ?_⟩
  · have hy : scope.names.lookup y = some .cell ∨ scope.names.lookup y = some .free := hy
    rcases hy with hy | hy
    · exact absurd rfl (S.nocell _ (PySem.mem_of_lookup hy))
    · have e := S.free _ (PySem.mem_of_lookup hy) rfl
      have e : y = "__class__" := e
      subst e
      exact ⟨cc, by show ([(("__class__" : Str), cc)] : List (Str × Addr)).lookup ("__class__" : Str) = _; simp [List.lookup]⟩
  · have hi : i < vs.length := by
      unfold L2.start at h2
      by_cases hi : i < vs.length
      · exact hi
      · rw [List.getElem?_append_right (by simpa using hi)] at h2
        rw [List.getElem?_replicate] at h2
        split at h2 <;> cases h2
    have ha : vs[i]? = some v := by
      unfold L2.start at h2
      rw [List.getElem?_append_left (by simpa using hi), List.getElem?_map] at h2
      cases e : vs[i]? with
      | none => rw [e] at h2; cases h2
      | some a => rw [e] at h2; cases h2; rfl
    obtain ⟨u, hu, rv⟩ := r.get ha
    have hp : ps[i]? = some y := by
      rw [← S.pre, List.getElem?_take_of_lt (by omega)]; exact h1
    have ndP : ps.Nodup := by rw [← S.pre]; exact S.nd.sublist (List.take_sublist _ _)
    exact ⟨u, rv, .inl ⟨S.par y (List.mem_of_getElem? hp), zip_rev ndP hp hu (r.length.symm.trans hl)⟩⟩
  · obtain ⟨_, rfl⟩ := one h
    exact ⟨cv, _, hk _ _ hc1.1, rfl⟩
  · obtain ⟨_, rfl⟩ := one h
    exact hc1.2
  · unfold L2.start
    show _ = N.length
    rw [List.length_append, List.length_map, List.length_replicate]
    omega
end
end Cr
/-! own errors over a built-in error that has no __new__ of its own (KeyError: the one of LookupError) -/
namespace Cr
open PySem PySem.Sem
/-- what the tail of the chain must have -/
structure TailOk (B : String) (l : List Value) : Prop where
  has : l.contains (.type B) = true
  noA : l.contains (.type "AttributeError") = false
  noN : l.contains (.type "NameError") = false
section
variable {prog : Program} {w : World} {A : Around} {E : Value → Shared → Prop} {R : Result → Shared → Prop} {h : Heap} {g : Array GenState} {d : Drawn} {t : Nat} {os : OsState}
variable {nm q : Str} {C N : Addr} {bs bm tl : List Value} {hdct : Bool} {sn : List Str} {sub : List Value} {ab : Bool} {col : Option Bool} {dd : Option Addr} {k0 k1 k2 k3 k5 : Option Value} {B nw ini : String}
theorem TailOk.up {l : List Value} {c : Addr} {B : String} (T : TailOk B l) : TailOk B (.ref c :: l) :=
  ⟨by rw [List.contains_cons, T.has, Bool.or_true], by rw [List.contains_cons, T.noA]; rfl, by rw [List.contains_cons, T.noN]; rfl⟩
/-- the look ahead of __new__ -/
theorem chkNew (F : ExcBaseFacts B nw ini tl) (T : TailOk B (.ref C :: bm)) {M : Model} {us : List Value} {Q : Unit → Shared → Prop}
    (at_ : h.get? C = some (excClassObj nm q C N bs bm hdct sn sub ab col dd k0 k1 k2 k3 k5 nw)) (z : Q () ⟨h, g, d, t, os⟩) : wpAny M A (checkBuiltinCall nw ⟨.ref C :: us, []⟩) Q E ⟨h, g, d, t, os⟩ := by
  have e1 := T.has
  have e2 := F.noStar
  simp only [checkBuiltinCall, F.newKind, F.newSplit, F.newRow]
  repeat (first | refine wpAny_loadPart_at at_ ?_ | (refine wpAny_isSubtype_exc at_ ?_; rw [e1]) | refine wpAny_staticBase_exc at_ ?_ | refine wpAny_madeBy_exc at_ ?_ | simp only [bne_self_eq_false, Bool.false_eq_true, if_false] | wp_step)
  exact z
/-- __new__ itself -/
theorem runNew (F : ExcBaseFacts B nw ini tl) (T : TailOk B (.ref C :: bm)) {us : List Value} (at_ : h.get? C = some (excClassObj nm q C N bs bm hdct sn sub ab col dd k0 k1 k2 k3 k5 nw))
    (z : R (.ok (.ret (.ref (h.objs.size + 1)))) ⟨(h.push (PySem.W.kdv_tup us)).push (PySem.HandSPX.excO C h.objs.size), g, d, t, os⟩) (few : us.length ≤ sizeLine) :
    codeAny (model prog w) A (.builtin nw ⟨.ref C :: us, []⟩) R ⟨h, g, d, t, os⟩ := by
  have e0 := F.ends
  have e1 := T.has
  have e2 := T.noA
  have e3 := T.noN
  refine codeAny_builtinAt F.entry ?_
  unfold Builtin.«BaseException.__new__»
  refine wpAt_bind ?_
  show wpAt _ _ _ (stack >>= _) _ _ _
  refine wpAt_bind (wpAt_stack fun _ _ => wpAt_of_wpAny ?_)
  wp_walk
  refine wpAt_of_wpAny ?_
  rw [F.owner]
  repeat (first | with_reducible refine wpAny_madeHere_exc F.canon at_ ?_ | with_reducible refine wpAny_loadPart_at at_ ?_ | (with_reducible refine wpAny_isSubtype_exc at_ ?_; first | rw [e1] | rw [e2] | rw [e3]) | wp_step)
  show R _ _
  rw [Heap.size_push]
  exact z
/-- type.__call__: __new__, then the own __init__ -/
theorem typeCall2 (F : ExcBaseFacts B nw ini tl) (T : TailOk B (.ref C :: bm)) {us : List Value} {fI : Addr} {Q : Fin → Shared → Prop} (at_ : h.get? C = some (excClassObj nm q C N bs bm hdct sn sub ab col dd k0 k1 k2 k3 k5 nw))
    (hi : PySem.W.Looks (model prog w) h (typeLookup (.ref C) "__init__") (some (.ref fI))) (hb : ∀ self, PySem.W.Looks (model prog w) h (bindSpecial (.ref fI) self) (.ref fI, [self])) (few : us.length ≤ sizeLine)
    (z : codeAny (model prog w) A (.call (.ref fI) ⟨.ref (h.objs.size + 1) :: us, []⟩) (fun r s' => match r with | .ok (.ret v) => v = .none ∧ Q (.done (.ret (.ref (h.objs.size + 1)))) s' | .ok _ => False | .error e => E e s')
      ⟨(h.push (PySem.W.kdv_tup us)).push (PySem.HandSPX.excO C h.objs.size), g, d, t, os⟩) :
    wpAny (model prog w) A (Builtin.«type.__call__» ⟨.ref C :: us, []⟩) Q E ⟨h, g, d, t, os⟩ := by
  repeat (first | with_reducible refine wpAny_loadPart_at at_ ?_ | with_reducible refine wpAny_madeBy_exc at_ ?_ | wp_step)
  refine codeAny_call_builtin_code (Code.quiet_builtin _ F.quiet) (chkNew F T at_ (runNew F T at_ ?_ few))
  show wpAny _ _ _ _ _ _
  have kp : ∀ b o, h.get? b = some o → ((h.push (PySem.W.kdv_tup us)).push (PySem.HandSPX.excO C h.objs.size)).get? b = some o := fun b o e => Heap.get?_push_of_some _ (Heap.get?_push_of_some _ e)
  have at1 := kp _ _ at_
  have here : ((h.push (PySem.W.kdv_tup us)).push (PySem.HandSPX.excO C h.objs.size)).get? (h.objs.size + 1) = some (PySem.HandSPX.excO C h.objs.size) := by heap_get
  have own : (Value.ref C :: bm).contains (.ref C) = true := by simp
  have i1 := hi.keeps kp
  have b1 := (hb (.ref (h.objs.size + 1))).keeps kp
  unfold isInstance
  repeat (first | with_reducible refine wpAny_loadPart_at here ?_ | (with_reducible refine wpAny_isSubtype_exc at1 ?_; rw [own]) | wp_step)
  show wpAny _ _ (typeLookup (.ref C) _) _ _ _
  refine i1.at (wpAny_holding (wpAny_bind (b1.at ?_)))
  refine wpAny_bind (wpAny_call (codeAny_mono z fun r s' y => ?_))
  rcases r with e | (v | _ | _ | _) <;> first | exact y | exact y.elim | skip
  obtain ⟨rfl, y⟩ := y
  first
    | exact wpAny_pure (wpAny_pure y)
    | (wp_walk; exact y)
/-- the class is called -/
theorem call2 (F : ExcBaseFacts B nw ini tl) (T : TailOk B (.ref C :: bm)) {us : List Value} {fI : Addr} (at_ : h.get? C = some (excClassObj nm q C N bs bm hdct sn sub ab col dd k0 k1 k2 k3 k5 nw))
    (hi : PySem.W.Looks (model prog w) h (typeLookup (.ref C) "__init__") (some (.ref fI))) (hb : ∀ self, PySem.W.Looks (model prog w) h (bindSpecial (.ref fI) self) (.ref fI, [self])) (few : us.length ≤ sizeLine)
    (z : codeAny (model prog w) (A.under (.builtin "type.__call__" ⟨.ref C :: us, []⟩)) (.call (.ref fI) ⟨.ref (h.objs.size + 1) :: us, []⟩) (PySem.W.InitBack (h.objs.size + 1) R) ⟨(h.push (PySem.W.kdv_tup us)).push (PySem.HandSPX.excO C h.objs.size), g, d, t, os⟩) :
    codeAny (model prog w) A (.call (.ref C) ⟨us, []⟩) R ⟨h, g, d, t, os⟩ := by
  have f1 := tc_lookup
  have f2 := tc_bind (.ref C)
  have ty : (⟨h, g, d, t, os⟩ : Shared).TypeIs (.ref C) "type" := ⟨_, at_, rfl⟩
  refine codeAny_of_tree ?_
  show wpAny _ _ (callAny (.ref C) _) _ _ _
  repeat (any_goals (first | assumption | with_reducible refine wpAny_loadPart_at at_ ?_ | wp_step))
  refine ⟨rfl, ?_⟩
  refine codeAny_call_builtin_at (Code.quiet_builtin _ (by decide +kernel)) entry_typeCall (wpAny_check_type_call_sub at_ (typeCall2 F T at_ hi hb few ?_))
  refine codeAny_mono z fun r s' y => ?_
  rcases r with e | (v | _ | _ | _) <;> exact y
end
/-- what is asked of the __init__ of a built-in error -/
structure IniF (B ini : String) : Prop where
  plain : plainId ini = true
  entry : entryFor table ini = some Builtin.«BaseException.__init__»
  kind : builtinKind ini = some .slot
  row : Manifest.signature? ini = some ⟨.positional, "*", B, .self, [⟨"args", .varPos, false⟩]⟩
  star : (B != "*") = true
theorem iniOf {B nw ini : String} (F : ExcCallFacts B nw ini) : IniF B ini := ⟨F.init.plain, F.initEntry, F.initKind, F.initRow, F.noStar⟩
section
variable {M : Model} {A : Around} {E : Value → Shared → Prop} {h : Heap} {g : Array GenState} {d : Drawn} {t : Nat} {os : OsState}
/-- the look ahead of a bound __init__ -/
theorem chkIni {B ini nw : String} (F : IniF B ini) {nm q : Str} {C N e : Addr} {oe : Obj} {bs bm : List Value} {hdct : Bool} {sn : List Str} {sub : List Value} {ab : Bool} {col : Option Bool} {dd : Option Addr} {k0 k1 k2 k3 k5 : Option Value} {us : List Value} {Q : Unit → Shared → Prop}
    (at_ : h.get? C = some (excClassObj nm q C N bs bm hdct sn sub ab col dd k0 k1 k2 k3 k5 nw)) (he : h.get? e = some oe) (hcls : oe.cls = .ref C) (z : Q () ⟨h, g, d, t, os⟩) : wpAny M A (checkBoundCall ini ⟨.ref e :: us, []⟩) Q E ⟨h, g, d, t, os⟩ := by
  have st := F.star
  simp only [checkBoundCall, F.kind, F.row]
  repeat (first | (with_reducible refine wpAny_loadPart_at he ?_; rw [hcls]) | with_reducible refine wpAny_loadPart_at at_ ?_ | wp_step)
  refine wpAny_onRaise ?_
  rw [show ∀ (a b : String) (n : Nat), Bind.check ⟨.positional, "*", B, .self, [⟨"args", .varPos, false⟩]⟩ a b n (List.map (fun x => x.fst) ({ pos := Value.ref e :: us } : Args).kw) = pure () from fun a b n => check_star_args _ _ _ _ _ _]
  exact wpAny_pure z
end
end Cr
/-! own errors over any built-in error: fields stored, the making, super().__init__(..) -/
namespace Cr
open PySem PySem.Spec PyProof.Rows L2
open Builtin Builtin.ObjectAttr
/-- a built-in error: its name, its __new__ and __init__, its chain -/
structure XB where
  B : String
  nw : String
  ini : String
  tl : List Value
structure XB.Ok (b : XB) : Prop where
  made : ∃ Bn inN tlN, ExcBaseFacts Bn b.nw inN tlN ∧ TailOk Bn b.tl
  inif : IniF b.B b.ini
  sup : PySem.W.KxsFacts b.B b.ini
  free : ∀ self : Value, refuseLoop self "__setattr__" b.tl = pure ()
  obj : b.tl.contains (.type "object") = true
abbrev xbV : XB := ⟨"ValueError", "ValueError.__new__", "ValueError.__init__", [.type "ValueError", .type "Exception", .type "BaseException", .type "object"]⟩
abbrev xbR : XB := ⟨"RuntimeError", "RuntimeError.__new__", "RuntimeError.__init__", [.type "RuntimeError", .type "Exception", .type "BaseException", .type "object"]⟩
theorem ok_xb {b : XB} (F : ExcBaseFacts b.B b.nw b.ini b.tl) (s : PySem.W.KxsFacts b.B b.ini) (f : ∀ self : Value, refuseLoop self "__setattr__" b.tl = pure ()) (o : b.tl.contains (.type "object") = true) : b.Ok :=
  ⟨⟨_, _, _, F, F.hasB, F.noAttr, F.noName⟩, iniOf F.toExcCallFacts, s, f, o⟩
theorem xbV_ok : xbV.Ok := ok_xb F.excBase_ValueError PySem.W.kxs_ValueError F.store_ValueError.passes (by decide +kernel)
theorem xbR_ok : xbR.Ok := ok_xb F.excBase_RuntimeError PySem.W.kxs_RuntimeError F.store_RuntimeError.passes (by decide +kernel)
/-- own classes, then the chain -/
def downTo (tl : List Value) : List Value → Bool
  | .ref _ :: r => downTo tl r
  | l => l == tl
theorem down_or {tl l : List Value} (h : downTo tl l = true) : (∃ c r, l = .ref c :: r ∧ downTo tl r = true) ∨ l = tl := by
  unfold downTo at h
  split at h
  · exact .inl ⟨_, _, rfl, h⟩
  · exact .inr (beq_iff_eq.mp h)
theorem down_free {tl : List Value} (self : Value) (ht : refuseLoop self "__setattr__" tl = pure ()) : ∀ l : List Value, downTo tl l = true → refuseLoop self "__setattr__" l = pure ()
  | [], h => by
    rcases down_or h with ⟨_, _, z, _⟩ | rfl
    · cases z
    · exact ht
  | v :: r, h => by
    rcases down_or h with ⟨c, r', z, k⟩ | z
    · cases z
      rw [refuseLoop_ref]
      exact down_free self ht r k
    · rw [z]
      exact ht
theorem down_has {tl : List Value} (Y : String) : ∀ l : List Value, downTo tl l = true → l.contains (.type Y) = tl.contains (.type Y)
  | [], h => by
    rcases down_or h with ⟨_, _, z, _⟩ | rfl
    · cases z
    · rfl
  | v :: r, h => by
    rcases down_or h with ⟨c, r', z, k⟩ | z
    · cases z
      rw [List.contains_cons, down_has Y r k]
      rfl
    · rw [z]
theorem XB.Ok.tail {b : XB} (h : b.Ok) {C : Addr} {bm : List Value} (d : downTo b.tl bm = true) : ∃ Bn inN tlN, ExcBaseFacts Bn b.nw inN tlN ∧ TailOk Bn (.ref C :: bm) := by
  obtain ⟨Bn, inN, tlN, F, T⟩ := h.made
  refine ⟨Bn, inN, tlN, F, TailOk.up ⟨?_, ?_, ?_⟩⟩
  · rw [down_has _ _ d]; exact T.has
  · rw [down_has _ _ d]; exact T.noA
  · rw [down_has _ _ d]; exact T.noN
/-- what the written part says of an own error's class -/
structure OexG (K : PySem.W.Frag) (C : Addr) (b : XB) : Prop where
  ok : b.Ok
  cls : ∃ nm q N bs bm sn sub ab col dd k0 k1 k2 k3 k5, K.lookup C = some (excClassObj nm q C N bs bm true sn sub ab col dd k0 k1 k2 k3 k5 b.nw) ∧ downTo b.tl bm = true
  sa : PySem.W.findIn K (.ref C) "__setattr__" = some (some (.builtin "object.__setattr__"))
  exC : PySem.W.subIn K (.ref C) (.type "BaseException") = some true
  tyC : PySem.W.typeIn K (.ref C) = some (.type "type")
  kC : PySem.W.keepIn K (.ref C) = true
section
variable {prog : Program} {w : World} {A : Around} {R : Result → Shared → Prop} {hp : Heap} {g : Array GenState} {d : Drawn} {t : Nat} {os : OsState}
/-- the way of object.__setattr__ up to the own dict -/
theorem osaG {K : PySem.W.Frag} {name : Str} {tk : Tok} {v : Value} {x C : Addr} {ox : Obj} {od : Option Obj} {cd : ClassData} {b : XB} (hb : b.Ok) (X : K.In hp) (I : PySem.W.InstAt hp x ox C od) (hcd : PySem.W.clsIn K C = some cd) (hm : downTo b.tl cd.mro = true) (ha : PySem.W.findIn K (.ref C) name = some none)
    (go : ∀ Q : Fin → Shared → Prop, (∀ s', R (.ok (.ret .none)) s' → Q (.done (.ret .none)) s') → wpAny (model prog w) A.in1 (storeInOwnDict (.ref x) (.ref C) (.str name tk) name v false) Q (fun e s' => R (.error e) s') ⟨hp, g, d, t, os⟩) :
    codeAny (model prog w) A (.call (.builtin "object.__setattr__") ⟨[.ref x, .str name tk, v], []⟩) R ⟨hp, g, d, t, os⟩ := by
  have SF := F.store_object
  have has : cd.mro.contains (.type "object") = true := (down_has "object" _ hm).trans hb.obj
  have full : cd.mro.isEmpty = false := by
    cases e : cd.mro with
    | nil => rw [e] at has; exact absurd has (by decide)
    | cons _ _ => rfl
  have isO : PySem.W.Looks (model prog w) hp (isInstance (.ref x) (.type "object")) true := I.type.andThen (PySem.W.looks_mroIn X (by unfold PySem.W.mroIn; rw [hcd, Option.bind_some, if_neg (by rw [full]; decide), has]))
  refine codeAny_call_builtin SF.slot.plain SF.entry (@PySem.W.check_slot (model prog w) _ _ ⟨hp, g, d, t, os⟩ "object.__setattr__" "object" "__setattr__" (.ref x) [.str name tk, v] [] _ SF.kind SF.split isO (SF.args (.ref x) (.str name tk) v) ?_)
  have line : PySem.W.Looks (model prog w) hp (mroOf (.ref C)) cd.mro := (PySem.W.looks_clsIn X hcd).andThen .now
  have none_ : PySem.W.Looks (model prog w) hp (storeTaker? none) none := .now
  rw [PySem.W.osa_eq, refuse_eq]
  refine wpAny_bind (wpAny_bind (I.type.at (wpAny_bind (line.at ?_))))
  rw [down_free _ (hb.free _) _ hm]
  refine wpAny_pure (wpAny_bind (I.type.at (wpAny_bind ((PySem.W.looks_findIn X ha).at (wpAny_bind (none_.at ?_))))))
  exact go _ fun s' h => h
end
end Cr
namespace Cr
open PySem PySem.Spec PyProof.Rows L2
open Builtin Builtin.ObjectAttr
section
variable {prog : Program} {w : World} {A : Around} {R : Result → Shared → Prop} {hp : Heap} {g : Array GenState} {d : Drawn} {t : Nat} {os : OsState}
/-- the first field: the dict is made -/
theorem osaG_new {K : PySem.W.Frag} {name : Str} {tk : Tok} {v : Value} {x C : Addr} {fv : Array Value} {cd : ClassData} {b : XB} (hb : b.Ok) (X : K.In hp) (hx : hp.get? x = some { cls := .ref C, data := .fields fv }) (hcd : PySem.W.clsIn K C = some cd) (hm : downTo b.tl cd.mro = true) (hh : cd.hasDict = true)
    (ha : PySem.W.findIn K (.ref C) name = some none)
    (hq : ∀ h' tk' dx, (∀ c o, c ≠ x → hp.get? c = some o → h'.get? c = some o) → hp.objs.size ≤ dx → dx ≠ x → h'.get? x = some { cls := .ref C, dict := some dx, data := .fields fv } →
      h'.Ns1 dx (fun y => if y = name then some v else none) → R (.ok (.ret .none)) ⟨h', g, d, tk', os⟩) :
    codeAny (model prog w) A (.call (.builtin "object.__setattr__") ⟨[.ref x, .str name tk, v], []⟩) R ⟨hp, g, d, t, os⟩ := by
  refine osaG hb X (ox := { cls := .ref C, data := .fields fv }) (od := none) ⟨hx, rfl, rfl, trivial⟩ hcd hm ha fun Q hQ => ?_
  have far : x ≠ hp.objs.size := Nat.ne_of_lt (Heap.lt_size hx)
  have hc : PySem.W.Looks (model prog w) hp (classData C) cd := PySem.W.looks_clsIn X hcd
  obtain ⟨nm, bs, mro, ns, qn, hd, sn, sb, ab, col, dl⟩ := cd
  cases hh
  unfold storeInOwnDict ownDictForStores
  repeat (first | with_reducible refine PySem.HandSPX.store_in_new ?_ ?_ | with_reducible refine wpAny_loadPart_at hx ?_ | with_reducible refine hc.at ?_ | wp_step)
  · exact ⟨_, #[], _, (Heap.get?_update_ne _ _ _ _ far.symm).trans (Heap.get?_push_at rfl rfl), rfl, (fun e he => by simp at he), fun _ => rfl⟩
  · intro h' tk' hn hs
    refine hQ _ (hq h' tk' hp.objs.size (fun c o hc ho => ?_) (Nat.le_refl _) far.symm ?_ hn)
    · rw [hs.2 c (Nat.ne_of_lt (Heap.lt_size ho)), Heap.get?_update_ne _ _ _ _ hc]
      exact Heap.get?_push_of_some _ ho
    · rw [hs.2 x far]
      exact Heap.get?_update_self _ (Heap.get?_push_of_some _ hx) rfl
/-- a further field -/
theorem osaG_old {K : PySem.W.Frag} {name : Str} {tk : Tok} {v : Value} {x C dx : Addr} {fv : Array Value} {cd : ClassData} {m0 : Str → Option Value} {nl : List Str} {b : XB} (hb : b.Ok) (X : K.In hp) (hx : hp.get? x = some { cls := .ref C, dict := some dx, data := .fields fv }) (hns : hp.Ns1 dx m0) (hw : Within m0 nl) (hz : nl.length ≤ 1000)
    (hcd : PySem.W.clsIn K C = some cd) (hm : downTo b.tl cd.mro = true) (hh : cd.hasDict = true) (ha : PySem.W.findIn K (.ref C) name = some none)
    (hq : ∀ h' tk', (∀ c o, c ≠ dx → hp.get? c = some o → h'.get? c = some o) → h'.Ns1 dx (fun y => if y = name then some v else m0 y) → R (.ok (.ret .none)) ⟨h', g, d, tk', os⟩) :
    codeAny (model prog w) A (.call (.builtin "object.__setattr__") ⟨[.ref x, .str name tk, v], []⟩) R ⟨hp, g, d, t, os⟩ := by
  obtain ⟨oD, _, _, hoD, _, _⟩ := hns.count hw
  refine osaG hb X (ox := { cls := .ref C, dict := some dx, data := .fields fv }) (od := some oD) ⟨hx, rfl, rfl, hoD⟩ hcd hm ha fun Q hQ => ?_
  have hc : PySem.W.Looks (model prog w) hp (classData C) cd := PySem.W.looks_clsIn X hcd
  obtain ⟨nm, bs, mro, ns, qn, hd, sn, sb, ab, col, dl⟩ := cd
  cases hh
  unfold storeInOwnDict ownDictForStores
  repeat (first | with_reducible refine PySem.OEX.store_in_old hns hw hz ?_ | with_reducible refine wpAny_loadPart_at hx ?_ | with_reducible refine hc.at ?_ | wp_step)
  intro h' tk' hn hs
  exact hQ _ (hq h' tk' (fun c o hc ho => (hs.2 c hc).trans ho) hn)
end
section
variable {X : Cx} {pins : List (Addr × Obj)} {σ : L2.St} {H : Hp} {s : Shared} {a C dx : Addr} {b : XB} {f : Str} {y : V} {u : Value} {fs : List (Str × V)} {Q : Unit → Shared → Prop} {E : Value → Shared → Prop} {A : Around}
theorem ostG_new (T : OexG X.K C b) (I : Inv X pins σ H s) (e : H a = some (exo a C none)) (hno : PySem.W.findIn X.K (.ref C) f = some none) (ry : RelV y u)
    (h : ∀ dx s', H dx = none → dx ≠ a → Inv X pins σ (upd (upd H dx (exd dx [(f, y)])) a (exo a C (some dx))) s' → Q () s') : wpAny (model X.prog X.w) A (setAttr (.ref a) f u) Q E s := by
  obtain ⟨nm, q, N, bs, bm, sn, sub, ab, col, dd, k0, k1, k2, k3, k5, hC, hbm⟩ := T.cls
  have hcl : PySem.W.clsIn X.K C = some { name := nm, bases := bs, mro := .ref C :: bm, ns := N, qualname := q, hasDict := true, slotNames := sn, subclasses := sub, abstract := ab, collection := col, hasDel := false } := by unfold PySem.W.clsIn; rw [hC] <;> rfl
  obtain ⟨t1, ho⟩ := exo_at I.hok e
  obtain ⟨hp, g, d, t, os⟩ := s
  refine PySem.W.set_plain I.kIn (ox := { cls := .ref C, dict := none, data := .fields #[.ref t1, .none, .none, .none, .bool false, .none] }) (od := none) ⟨ho, rfl, rfl, trivial⟩ T.sa ?_
  refine osaG_new T.ok I.kIn ho hcl (show downTo b.tl (.ref C :: bm) = true from hbm) rfl hno (fun h' tk' dx k dn dne hx hn => ?_)
  have new : H dx = none := I.hok.fresh dn
  have old : ∀ {c : Addr} {o : Obj}, hp.get? c = some o → c ≠ dx := fun q => Nat.ne_of_lt (Nat.lt_of_lt_of_le (Heap.lt_size q) dn)
  have notA : ∀ {c : Addr}, H c = none → c ≠ a := fun n z => by rw [z, e] at n; cases n
  have atA : ∀ {c : Addr} {o : HO}, H c = some o → exo a C none ≠ o → upd (upd H dx (exd dx [(f, y)])) a (exo a C (some dx)) c = some o := fun q n => by
    rw [upd_ne (at_ne e q n), upd_ne (ne_of_none q new)]
    exact q
  have stays : Un X.fs [] H (upd (upd H dx (exd dx [(f, y)])) a (exo a C (some dx))) hp h' := {
    keep := fun c o q n _ _ => k c o (notA n) q
    slot := fun c o q n _ _ => ⟨o.slots, k c o (notA n) q⟩
    free := fun c o q n _ => by rw [upd_ne (notA n), upd_ne (old q)]; exact n
    there := fun c o q _ => by
      by_cases hc : c = a
      · subst hc
        exact ⟨_, hx⟩
      · exact ⟨o, k c o hc q⟩
    tups := fun c xs q => atA q exo_tup
    frzs := fun c o v q => atA q exo_frz
    tbls := fun c ps q => ⟨#[], by rw [atA q exo_tbl]; simp⟩ }
  refine h dx _ new dne (I.un (t' := tk') stays fun c o q => ?_)
  by_cases ca : c = a
  · subst ca
    rw [upd_same] at q
    cases q
    exact exo_ok hx
  rw [upd_ne ca] at q
  by_cases cd : c = dx
  · subst cd
    rw [upd_same] at q
    cases q
    exact exd_ok hn (relO_put (fs := []) ry fun _ => True.intro)
  rw [upd_ne cd] at q
  refine (I.hok c o q).stay (fun c' v hc z => k c' v ?_ z) (fun c' hc => atA hc exo_own) (fun c' xs hc => atA hc exo_tup)
  rcases hc with hc | hc
  · rw [hc]; exact ca
  · exact at_ne e hc exo_own
theorem ostG_old (T : OexG X.K C b) (I : Inv X pins σ H s) (e : H a = some (exo a C (some dx))) (ed : H dx = some (exd dx fs)) (hl : fs.length ≤ 900) (hno : PySem.W.findIn X.K (.ref C) f = some none) (ry : RelV y u)
    (h : ∀ s', Inv X pins σ (upd H dx (exd dx ((f, y) :: fs))) s' → Q () s') : wpAny (model X.prog X.w) A (setAttr (.ref a) f u) Q E s := by
  obtain ⟨nm, q, N, bs, bm, sn, sub, ab, col, dd, k0, k1, k2, k3, k5, hC, hbm⟩ := T.cls
  have hcl : PySem.W.clsIn X.K C = some { name := nm, bases := bs, mro := .ref C :: bm, ns := N, qualname := q, hasDict := true, slotNames := sn, subclasses := sub, abstract := ab, collection := col, hasDel := false } := by unfold PySem.W.clsIn; rw [hC] <;> rfl
  obtain ⟨t1, ho⟩ := exo_at I.hok e
  obtain ⟨mA, hns, rel⟩ := exd_at I.hok ed
  obtain ⟨hp, g, d, t, os⟩ := s
  obtain ⟨oD, _, _, hoD, _, _⟩ := hns.count (within_of rel)
  refine PySem.W.set_plain I.kIn (ox := { cls := .ref C, dict := some dx, data := .fields #[.ref t1, .none, .none, .none, .bool false, .none] }) (od := some oD) ⟨ho, rfl, rfl, hoD⟩ T.sa ?_
  refine osaG_old T.ok I.kIn ho hns (within_of rel) (by rw [List.length_map]; omega) hcl (show downTo b.tl (.ref C :: bm) = true from hbm) rfl hno (fun h' tk' k hn => h _ ?_)
  have there : ∃ o, h'.get? dx = some o := by
    obtain ⟨o, _, _, z, _⟩ := hn
    exact ⟨o, z⟩
  exact I.write (t' := tk') (x := dx) (e := dx) (o := exd dx ((f, y) :: fs)) (by rw [ed]; exact True.intro) (.inl rfl) k there (exd_ok hn (relO_put ry rel))
end
/-- self.f = e in an own error's __init__ -/
def tOstG (K : PySem.W.Frag) (f : Str) (to te : TE) : TS := fun D σ H => te σ H fun y H1 => to σ H1 fun x H2 => ∃ (a C : Addr) (b : XB), x = .ref a ∧ OexG K C b ∧ PySem.W.findIn K (.ref C) f = some none ∧
  ((H2 a = some (exo a C none) ∧ ∀ dx, H2 dx = none → dx ≠ a → D.nx σ (upd (upd H2 dx (exd dx [(f, y)])) a (exo a C (some dx)))) ∨
    ∃ (dx : Addr) (fs : List (Str × V)), H2 a = some (exo a C (some dx)) ∧ H2 dx = some (exd dx fs) ∧ fs.length ≤ 900 ∧ D.nx σ (upd H2 dx (exd dx ((f, y) :: fs))))
section
variable {X : Cx} {o e : Expr} {es : List Expr} {to te : TE} {ta : TA} {f : Str} {p p' pos : Pos}
theorem ps_ostG (ho : PE X o to) (he : PE X e te) (hs : swapsWith e (some (.Attribute o f p')) pos.line X.env = pure false := by rfl) : PS X (.Assign [.Attribute o f p'] e pos) (tOstG X.K f to te) := by
  constructor
  intro pins s σ H D I h
  refine plainObj_wpAny_Assign_Attribute (thn (he.run pins s σ H _ I h) ?_) hs
  rintro v s1 ⟨y, H1, I1, r1, q1⟩
  refine thn (ho.run pins s1 σ H1 _ I1 q1) ?_
  rintro u s2 ⟨x, H2, I2, r2, a, C, b, rfl, T, hno, q⟩
  obtain rfl : u = Value.ref a := r2
  rcases q with ⟨ea, q⟩ | ⟨dx, fs, ea, ed, hl, q⟩
  · exact ostG_new T I2 ea hno r1 fun dx s' n ne J => ⟨σ, _, J, q dx n ne⟩
  · exact ostG_old T I2 ea ed hl hno r1 fun s' J => ⟨σ, _, J, q⟩
/-- C(e, ..) by its own __init__, to be raised -/
theorem pmkG {CX : CXT} {x : Str} {C fI : Addr} {b : XB} {k : Nat} {fd : FuncData} {ps : List Str} {sp : Sp} {ds : List Value} {dvs : List V} (T : OexG X.K C b) (iC : PySem.W.findIn X.K (.ref C) "__init__" = some (some (.ref fI))) (tI : PySem.W.typeIn X.K (.ref fI) = some (.type "function"))
    (F1 : FnOk X.prog X.w X.K X.mg X.base CX k fI fd ps sp) (hr : Room (k + 1) X.A) (hb : Binds X.K fd ps ds) (hd : Vals dvs ds) (hx : Passes CX X (fun _ _ _ => False)) (hg : Gl X x) (hm : X.mg x = some (.ref C)) (ha : PA X (e :: es) ta)
    (hdb : (x == ("__debug__" : Str)) = false := by decide) (he : starEach (e :: es) X.env = (false, eval e X.env) :: starEach es X.env := by rfl) (hpl : (backTo pos (starEach es X.env)).any (·.1) = false := by rfl) :
    PMk X (.Call (.Name x p) (e :: es) [] pos) (tMkO C sp dvs ta) := by
  intro pins s σ H Q I h
  obtain ⟨nm, q, N, bs, bm, sn, sub, ab, col, dd, k0, k1, k2, k3, k5, hC, hbm⟩ := T.cls
  refine wpAny_Call_Name_kw (ld_glob I hg hm ?_ hdb)
  refine PySem.W.callWith_K (h₀ := X.base) I.ok.mod.kin T.kC (thn (ha.run pos pins s σ H _ I h) ?_) he hpl
  rintro us ⟨hp, g, dr, tk, os⟩ ⟨vs, H1, I1, r1, hz, q1⟩
  refine ⟨I1.kIn, ?_⟩
  show wpAny _ _ (call (.ref C) us) _ _ _
  have up : hp.objs.size ≤ hp.objs.size + 1 := Nat.le_succ _
  have go := q1 (hp.objs.size + 1) (I1.hok.fresh up)
  generalize eH : (hp.push (PySem.W.kdv_tup us)).push (PySem.HandSPX.excO C hp.objs.size) = hh
  have kk : ∀ c o, hp.get? c = some o → hh.get? c = some o := fun c o z => by rw [← eH]; exact Heap.get?_push_of_some _ (Heap.get?_push_of_some _ z)
  have here : hh.get? (hp.objs.size + 1) = some (PySem.HandSPX.excO C hp.objs.size) := by rw [← eH]; heap_get
  have I2 : Inv X pins σ (upd H1 (hp.objs.size + 1) (exo (hp.objs.size + 1) C none)) ⟨hh, g, dr, tk, os⟩ := I1.laid (t' := tk) kk up (exo_ok here)
  have rel : Vals (V.ref (hp.objs.size + 1) :: (vs ++ dvs)) (Value.ref (hp.objs.size + 1) :: (us ++ ds)) := .cons rfl (r1.append hd)
  have size : (Value.ref (hp.objs.size + 1) :: us ++ ds).length = ps.length := rel.length.symm.trans (F1.len _ _ _ _ go)
  have few : us.length ≤ sizeLine := by
    rw [← Paired.length r1, sizeLine_eq]
    omega
  obtain ⟨Bn, inN, tlN, FN, TN⟩ := T.ok.tail (C := C) hbm
  refine wpAny_call (call2 FN TN (I1.kIn _ _ hC) (PySem.W.looks_findIn I1.kIn iC) (fun self => PySem.W.bind_fn I1.kIn self tI) few ?_)
  rw [eH]
  refine codeAny_mono (F1.run _ X.stack _ _ ⟨Value.ref (hp.objs.size + 1) :: us, []⟩ (Value.ref (hp.objs.size + 1) :: (us ++ ds)) _ _ (fun _ _ _ => False) (hr.make C us []) (I2.env0.make C us []) (hb _ (Value.ref (hp.objs.size + 1) :: us) I2.kIn size) rel go) ?_
  intro r s' z
  match r, z with
  | .error er, z => exact hx pins σ _ _ er s' I2 z
  | .ok .next, z => exact False.elim z
  | .ok .brk, z => exact False.elim z
  | .ok .cont, z => exact False.elim z
  | .ok (.ret u), ⟨v, H2, os2, bare2, un2, hok2, rv, ev, d, fs, ea, ed, hd1, q2⟩ =>
    subst ev
    obtain ⟨h2, g2, d2, t2, os'⟩ := s'
    exact ⟨rv, mk_end (raises_own T.exC T.tyC) I1 up kk un2 hok2 os2 bare2 ea ed hd1 q2⟩
end
/-! ### super().__init__(..) first -/
structure SupG (P : Program) (K : PySem.W.Frag) (C cda cc : Addr) (b : XB) : Prop where
  oex : OexG K C b
  code : ∃ ccl cdd cvs ccs file tf, K.lookup cda = some ⟨ccl, cdd, .fields cvs, ccs⟩ ∧ cvs[2]? = some (.str file tf) ∧ ((P.main.file : Str) == file) = true
  cell : ∃ cl cld csl, K.lookup cc = some ⟨cl, cld, .cell (some (.ref C)), csl⟩
  self : PySem.W.mroIn K C (.ref C) = some true
  opq : PySem.W.nsIn K cStatics "thirdparty.any" = some none
  up : PySem.W.ks_superIn K C C "__init__" = some (some (.builtin b.ini))
  sub : PySem.W.subIn K (.ref C) (.type b.B) = some true
  top : (P.main.scope.names.lookup ("super" : Str)).isSome = false
section
variable {P : Program} {w : World} {K : PySem.W.Frag} {mg : Str → Option Value} {base : Heap}
/-- the bound __init__ of the base, called -/
theorem boundG {X : Cx} {pins : List (Addr × Obj)} {σ : L2.St} {H : Hp} {s : Shared} {a C u : Addr} {b : XB} {A : Around} {E : Value → Shared → Prop} {us : List Value} {Q : Value → Shared → Prop} (T : OexG X.K C b) (I : Inv X pins σ H s) (e : H a = some (exo a C none))
    (hu : s.heap.get? u = some (PySem.W.kxs_mw b.ini a)) (hl : us.length ≤ sizeLine) (h : ∀ s', Inv X pins σ H s' → Q .none s') : wpAny (model X.prog X.w) A (call (.ref u) us) Q E s := by
  obtain ⟨nm, q, N, bs, bm, sn, sub, ab, col, dd, k0, k1, k2, k3, k5, hC, hbm⟩ := T.cls
  obtain ⟨t1, ho⟩ := exo_at I.hok e
  have hC' := I.kIn _ _ hC
  obtain ⟨hp, g, d, t, os⟩ := s
  refine wpAny_call (codeAny_of_tree ?_)
  show wpAny _ A.in1 (callAny (.ref u) ⟨us, []⟩) _ _ _
  simp only [callAny]
  refine wpAny_bind (wpAny_load hu ?_)
  simp only [PySem.W.kxs_mw, show (Value.type "method-wrapper" == Value.type "method" || Value.type "method-wrapper" == Value.type "builtin_function_or_method" || Value.type "method-wrapper" == Value.type "method-wrapper") = true by decide, if_true]
  refine PySem.W.KFB.if_so (by decide) ?_
  refine wpAny_bind (chkIni T.ok.inif hC' ho rfl ?_)
  refine wpAny_bind (wpAny_pure (wpAny_pure ?_))
  refine ⟨plainId_quiet T.ok.inif.plain _, codeAny_builtin T.ok.inif.entry ?_⟩
  refine PySem.W.exc_init_tree (cls := .ref C) (t0 := t1) (dv := none) (c2 := .none) (c3 := .none) (b4 := .bool false) ho hl fun h' k hx _ => ?_
  have J := I.write (t' := t) (x := a) (e := a) (o := exo a C none) (by rw [e]; exact True.intro) (.inl rfl) k ⟨_, hx⟩ (exo_ok hx)
  have eu : upd H a (exo a C none) = H := by
    funext b
    by_cases hb : b = a
    · rw [hb, upd_same, e]
    · rw [upd_ne hb]
  rw [eu] at J
  exact h _ J
/-- THE RULE: def __init__(self, ..): super().__init__(e, ..); rest -/
theorem okSupG {name qual : Str} {params : Arguments} {scope : Scope} {dV kV doc pm ct oc : Value} {an od : Option Addr} {osl : Array (Option Value)} {f C cda cc : Addr} {b : XB} {N ps : List Str} {k : Nat} {sp : Sp}
    {p0 p1 p2 p3 p4 : Pos} {e : Expr} {es : List Expr} {rest : List Stmt} {ar : Arg}
    (lk : K.lookup f = some ⟨oc, od, .func (PySem.W.ksFn name qual params (.Expr (.Call (.Attribute (.Call (.Name "super" p0) [] [] p1) "__init__" p2) (e :: es) [] p3) p4 :: rest) scope dV kV doc pm an (.ref cda) ct cc), osl⟩)
    (hcd : PySem.W.codeIn K (.ref cda) qual = true) (S : SupScope N ps scope) (T : SupG P K C cda cc b) (hsup : mg "super" = none)
    (hp0 : (params.posonlyargs ++ params.args).head? = some ar) (hself : N[0]? = some ar.arg) (hps : ar.arg ∈ ps)
    (len : ∀ vs H Q E, sp vs H Q E → vs.length = ps.length)
    (hbody : ∀ (A : Around) (outer : List Env) (s : Shared) (H : Hp) (vs : List V) (Q : VK) (E : XK), sp vs H Q E →
      ∃ (a : Addr) (ta : TA) (t : TS), (L2.start N vs)[0]? = some (some (.ref a)) ∧ H a = some (exo a C none) ∧ PA (cxSup P w K mg base N qual scope f cda cc A outer s H) (e :: es) ta ∧
        PSs (cxSup P w K mg base N qual scope f cda cc A outer s H) rest t ∧
        ta (L2.start N vs) H fun ws H1 => ws.length ≤ 1000 ∧ H1 a = some (exo a C none) ∧ t { nx := fun _ H' => Q .non H', rt := Q } (L2.start N vs) H1)
    {pl : Addr → Sem Bool}
    (hc : ∀ L : Addr, eval (.Call (.Attribute (.Call (.Name "super" p0) [] [] p1) "__init__" p2) (e :: es) [] p3) (PySem.W.ksEnv qual scope L f (.ref cda) cc) = (do
      let ov ← attributeBase (.Call (.Name "super" p0) [] [] p1) "__init__" (PySem.W.ksEnv qual scope L f (.ref cda) cc) (eval (.Call (.Name "super" p0) [] [] p1) (PySem.W.ksEnv qual scope L f (.ref cda) cc))
      standAt p2.atName
      let (fx, first) ← holding [ov] (getMethod ov "__init__" (pl L))
      callWith p3 fx first (backTo p3 (starEach (e :: es) (PySem.W.ksEnv qual scope L f (.ref cda) cc))) []) := by intro _; rfl)
    (hint : ∀ L : Addr, interactive (PySem.W.ksEnv qual scope L f (.ref cda) cc) = false := by intro _; rfl)
    (hsw : ∀ L : Addr, swapsWith (.Call (.Attribute (.Call (.Name "super" p0) [] [] p1) "__init__" p2) (e :: es) [] p3) none p4.line (PySem.W.ksEnv qual scope L f (.ref cda) cc) = pure false := by intro _; rfl)
    (he : ∀ L : Addr, starEach (e :: es) (PySem.W.ksEnv qual scope L f (.ref cda) cc) = (false, eval e (PySem.W.ksEnv qual scope L f (.ref cda) cc)) :: starEach es (PySem.W.ksEnv qual scope L f (.ref cda) cc) := by intro _; rfl)
    (hpl : ∀ L : Addr, (backTo p3 (starEach es (PySem.W.ksEnv qual scope L f (.ref cda) cc))).any (·.1) = false := by intro _; rfl) :
    FnOk P w K mg base CX0 (k + 1) f (PySem.W.ksFn name qual params (.Expr (.Call (.Attribute (.Call (.Name "super" p0) [] [] p1) "__init__" p2) (e :: es) [] p3) p4 :: rest) scope dV kV doc pm an (.ref cda) ct cc) ps sp := by
  refine ⟨len, fun A outer s H args us vs Q E hr e0 hb r hsp => ?_⟩
  have keepB : ∀ b o, base.get? b = some o → s.heap.get? b = some o := fun b o e => (e0.bs b o e).1
  obtain ⟨cl, cld, csl, hcell⟩ := T.cell
  obtain ⟨ccl, cdd, cvs, ccs, file, tf, hcode, hvs, hfile⟩ := T.code
  refine ks_codeAny_call_defAt (fd := PySem.W.ksFn name qual params _ scope dV kV doc pm an (.ref cda) ct cc) (binds := ps.zip us) hr.depth ((e0.mod.kin.keeps keepB) _ _ lk) rfl (e0.mod.nolimit.keeps keepB) (PySem.W.codeRec_of (e0.mod.kin.keeps keepB) hcd) rfl hb S.nocell
    (fun x hx => S.par x.1 (List.of_mem_zip (show (x.1, x.2) ∈ ps.zip us from hx)).1) (fun h₁ hns hk => ?_) S.co S.gen S.kind
  obtain ⟨a, ta, t, hs0, hea, hta, ht, hT⟩ := hbody A outer s H vs Q E hsp
  have I : Inv (cxSup P w K mg base N qual scope f cda cc A outer s H) [] (L2.start N vs) H { s with heap := h₁, toks := s.toks + (ps.zip us).length } := inv_sup S hr.hd e0 (len _ _ _ _ hsp) r hcell hns hk
  have kIn := I.kIn
  obtain ⟨m, hn, hlk⟩ := I.loc
  obtain ⟨u0, hu0, hl0⟩ := hlk 0 ar.arg (.ref a) hself hs0 (.inl (S.par _ hps))
  obtain rfl : u0 = Value.ref a := hu0
  have hma : m ar.arg = some (.ref a) := by
    rcases hl0 with ⟨_, z⟩ | ⟨z, _⟩
    · exact z
    · have k1 : scope.names.lookup ar.arg = some .local := S.par _ hps
      rcases z with z | z
      · have z' : scope.names.lookup ar.arg = some .cell := z
        rw [k1] at z'; cases z'
      · have z' : scope.names.lookup ar.arg = some .free := z
        rw [k1] at z'; cases z'
  obtain ⟨t1, ho⟩ := exo_at I.hok hea
  obtain ⟨nm, q, N', bs, bm, sn, sub, ab, col, dd, k0, k1, k2, k3, k5, hC, hbm⟩ := T.oex.cls
  have hcl : PySem.W.clsIn K C = some { name := nm, bases := bs, mro := .ref C :: bm, ns := N', qualname := q, hasDict := true, slotNames := sn, subclasses := sub, abstract := ab, collection := col, hasDel := false } := by unfold PySem.W.clsIn; rw [hC] <;> rfl
  obtain ⟨mb, hmb, hbb⟩ := I.mod.blt
  have J : PySem.W.InstAt h₁ a { cls := .ref C, dict := none, data := .fields #[.ref t1, .none, .none, .none, .bool false, .none] } C none := ⟨ho, rfl, rfl, trivial⟩
  have hne : a ≠ C := PySem.W.ks_ne kIn J hcl
  show PySem.wpAt (model P w) (A.deeper (PySem.W.ksEnv qual scope s.heap.objs.size f (.ref cda) cc)) (.func _ (PySem.W.ksEnv qual scope s.heap.objs.size f (.ref cda) cc)) (execs _ (PySem.W.ksEnv qual scope s.heap.objs.size f (.ref cda) cc)) _ _ _
  refine ks_wpAt_execs_cons (ks_wpAt_Expr_any (ks_wpAt_MethodCall (pl := pl s.heap.objs.size) (ks_wpAt_super_base (f := f) S.sup S.cls (by decide) rfl (kIn _ _ lk) rfl hp0 rfl (kIn _ _ hcode) rfl hvs hfile T.top ?_) (hc _)) (hint _) (hsw _))
  refine PySem.W.ks_loadName_global S.kind S.sup (PySem.Calls.loadGlobal_builtin (mg := mg) (mb := mb) (I.mod.glob.keeps I.bk) hsup (hmb.keeps I.bk) ((hbb _ (by decide +kernel)).trans (by first | boot_by_name | rfl | kernel_rfl)) ⟨rfl, ?_⟩)
  refine wpAny_loadName_free S.kind S.cls rfl ⟨_, kIn _ _ hcell, rfl⟩ ?_
  refine wpAny_loadName_local S.kind (S.par _ hps) hn hma ?_
  refine ks_wpAny_isType_cls (kIn _ _ hC) rfl ⟨rfl, ?_⟩
  refine ks_wpAny_call_super (kIn _ _ hC) rfl ho rfl (fun c z => by cases z) (PySem.W.looks_mroIn kIn T.self) (fun h2 e2 kk2 => ?_)
  have I2 : Inv (cxSup P w K mg base N qual scope f cda cc A outer s H) [] (L2.start N vs) H { s with heap := h2, toks := s.toks + (ps.zip us).length } := I.kept (t' := s.toks + (ps.zip us).length) kk2
  have hm2 := T.up
  unfold PySem.W.ks_superIn at hm2
  rw [hcl] at hm2
  have J2 : PySem.W.InstAt h2 a { cls := .ref C, dict := none, data := .fields #[.ref t1, .none, .none, .none, .bool false, .none] } C none := ⟨kk2 _ _ ho, rfl, rfl, trivial⟩
  refine PySem.W.kxs_getMethod T.oex.ok.sup e2 (PySem.W.looks_opaque I2.kIn T.opq) (l₀ := .ref C :: bm) (fun A Q E s k q => wpAny_bind ((PySem.W.looks_clsIn I2.kIn hcl) A _ E s k (wpAny_pure q))) rfl I2.kIn hm2
    (J2.type.andThen (PySem.W.looks_subIn I2.kIn T.sub)) hne (by decide) ?_
  have kk3 : ∀ b' o, h2.get? b' = some o → (h2.push (PySem.W.kxs_mw b.ini a)).get? b' = some o := fun b' o z => Heap.get?_push_of_some _ z
  have I3 : Inv (cxSup P w K mg base N qual scope f cda cc A outer s H) [] (L2.start N vs) H { s with heap := h2.push (PySem.W.kxs_mw b.ini a), toks := s.toks + (ps.zip us).length + 1 } := I2.kept (t' := s.toks + (ps.zip us).length + 1) kk3
  have I4 : Inv (cxSup P w K mg base N qual scope f cda cc A outer s H) [(h2.objs.size, PySem.W.kxs_mw b.ini a)] (L2.start N vs) H { s with heap := h2.push (PySem.W.kxs_mw b.ini a), toks := s.toks + (ps.zip us).length + 1 } :=
    ⟨I3.ok, I3.os, I3.bare, I3.base, I3.loc, I3.cell, I3.free, I3.freeC, fun p hp => by
      have hp' : p = (h2.objs.size, PySem.W.kxs_mw b.ini a) := List.mem_singleton.mp hp
      subst hp'
      exact ⟨Heap.get?_push_at rfl rfl, I2.hok.fresh (Nat.le_refl _), Nat.ne_of_gt I2.lt, I2.nofs (Nat.le_refl _), fun v z => by cases z⟩, I3.hok, I3.len⟩
  have hev := he s.heap.objs.size
  have hpv := hpl s.heap.objs.size
  show wpAny (model P w) _ (callWith p3 (.ref h2.objs.size) [] (backTo p3 (starEach (e :: es) (PySem.W.ksEnv qual scope s.heap.objs.size f (.ref cda) cc))) []) _ _ _
  have ru := hta.run p3 _ _ _ _ _ I4 hT
  have ru' : wpAny (model P w) (A.deeper (PySem.W.ksEnv qual scope s.heap.objs.size f (.ref cda) cc)) (spliced (backTo p3 (starEach (e :: es) (PySem.W.ksEnv qual scope s.heap.objs.size f (.ref cda) cc)))) _ (fun _ _ => False) _ := ru
  rw [hev] at ru' ⊢
  refine PySem.W.kxs_callWith (i := b.ini) (x := a) (by show (false || (backTo p3 (starEach es _)).any (·.1)) = false; rw [hpv]; rfl) (PySem.Calls.evalArgs_plain ?_)
  refine wpAny_mono ru' (fun ws s5 h5 => ?_) fun _ _ z => z.elim
  obtain ⟨vs5, H5, I5, r5, hl5, he5, hT5⟩ := h5
  have hu5 := (I5.pin _ (List.mem_append_right _ List.mem_cons_self)).1
  refine ⟨hu5, ?_⟩
  refine boundG T.oex I5 he5 hu5 (by show ws.length ≤ sizeLine; rw [← Paired.length r5, sizeLine_eq]; omega) fun s6 I6 => ?_
  have go := ht.run _ _ _ _ _ I6 hT5
  refine wpAt_of_wpAny ?_
  refine wpAny_mono go (fun fl s7 h7 => ?_) fun _ _ z => z.elim
  match fl, h7 with
  | .ret u, ⟨v, σ2, H2, J7, rv, q7⟩ => exact ⟨v, H2, J7.os, J7.bare, J7.base, J7.hok, rv, q7⟩
  | .next, ⟨σ2, H2, J7, q7⟩ => exact ⟨V.non, H2, J7.os, J7.bare, J7.base, J7.hok, rfl, q7⟩
  | .brk, ⟨_, _, _, q7⟩ => exact q7.elim
  | .cont, ⟨_, _, _, q7⟩ => exact q7.elim
end
end Cr
/-! len(o) by an own __len__ -/
namespace Cr
open PySem PySem.Spec PyProof.Rows L2 Evl
theorem Env0.in1 {P : Program} {w : World} {K : PySem.W.Frag} {mg : Str → Option Value} {base : Heap} {A : Around} {outer : List Env} {s : Shared} {H : Hp} (e : Env0 P w K mg base A outer s H) : Env0 P w K mg base A.in1 outer s H :=
  ⟨e.frames, e.mod, e.bs, e.bsz, e.funs, e.frf, e.hok, e.bare⟩
end Cr
/-! methods that may raise, called in a try -/
namespace Cr
open PySem PySem.Spec PyProof.Rows L2 Evl
def tMethS (C : Addr) (m : Str) (sp : Sp) (E : L2.St → XK) (ta : TE) (t : TA) : TE := fun σ H Q => ta σ H fun x H1 => ∃ a dx fs, x = .ref a ∧ H1 a = some (.ins C dx fs) ∧ fs.lookup m = none ∧ t σ H1 fun vs H2 => sp (x :: vs) H2 Q (E σ)
section
variable {X : Cx} {CX : CXT} {k : Nat} {f C : Addr} {fd : FuncData} {ps : List Str} {sp : Sp} {E : L2.St → XK} {m : Str} {pos apos : Pos} {e o : Expr} {es : List Expr} {ta : TE} {t : TA}
theorem methS {pl : Sem Bool} (he : PE X o ta) (c : Cls X.K C) (hm : Meth X.K C m f) (F : FnOk X.prog X.w X.K X.mg X.base CX k f fd ps sp) (hr : Room k X.A) (hb : Binds X.K fd ps []) (hx : ∀ σ, PassesAt CX X σ (E σ)) (ha : PA X (e :: es) t)
    (hst : starEach (e :: es) X.env = (false, eval e X.env) :: starEach es X.env := by rfl) (hpl : (backTo pos (starEach es X.env)).any (·.1) = false := by rfl)
    (ht : eval (.Call (.Attribute o m apos) (e :: es) [] pos) X.env = (do
      let ov ← eval o X.env
      standAt apos.atName
      let (f, first) ← holding [ov] (getMethod ov m pl)
      callWith pos f first (backTo pos (starEach (e :: es) X.env)) (backToKw pos (keywordEach [] X.env))) := by rfl) : PE X (.Call (.Attribute o m apos) (e :: es) [] pos) (tMethS C m sp E ta t) := by
  constructor
  intro pins s σ H Q I h
  refine PySem.W.methodCall_KW (pl := pl) (thn (he.run pins s σ H _ I h) ?_) ht
  rintro u s1 ⟨x, H1, I1, rx, a, dx, fs, rfl, ea, l, q⟩
  obtain rfl : u = Value.ref a := rx
  refine getmeth_ok I1 ea c hm l ?_
  refine PySem.W.callWith_K (first := [.ref a]) (h₀ := X.base) I.ok.mod.kin hm.kp (thn (ha.run pos pins s1 σ H1 _ I1 q) ?_) hst hpl
  rintro us s2 ⟨vs, H2, I2, r, q2⟩
  exact ⟨I2.kIn, run_fnS (us := .ref a :: us) (vs := .ref a :: vs) F hr hb (hx σ) I2 (.cons rfl r) q2⟩
end
end Cr
/-! defs that may raise, where no repr is under way; a caught error asked -/
namespace Cr
open PySem PySem.Spec PyProof.Rows L2 Evl
/-! ### isinstance of a caught error that has its dict -/
def rIsX (K : PySem.W.Frag) (D a dd : Addr) : List V → Hp → VK → Prop := fun xs H Q => ∃ (c : V) (b : Bool), xs = [.ref a, c] ∧ (∃ fs, H dd = some (.xd fs)) ∧
  ((∃ u, ClsV c u ∧ PySem.W.kitOne K (.ref D) u = some b) ∨ ∃ (tp : Addr) (cs : List V) (us : List Value), c = .ref tp ∧ H tp = some (.tup cs) ∧ Paired ClsV cs us ∧ PySem.W.kitAny K (.ref D) us = some b) ∧ Q (.bl b) H
theorem call_isX {X : Cx} {a D dd : Addr} {oe : Obj} {pn : List (Addr × Obj)} (C : ExcC X.K D) (hz : Zc (.ref D) (some dd) oe) (hf : ∃ vs, oe.data = .fields vs) : CallR (X.suite a ((a, oe) :: pn)) (.builtin "isinstance") (rIsX X.K D a dd) := by
  intro pins s σ H xs us Q I r h
  obtain ⟨c, b, rfl, ⟨fs, hdd⟩, k, q⟩ := h
  obtain ⟨u1, u2, rfl, r1, r2⟩ := vals2 r
  obtain rfl : u1 = Value.ref a := r1
  obtain ⟨hget, _⟩ := I.pin (a, oe) (List.mem_append.mpr (.inl List.mem_cons_self))
  obtain ⟨vs, hv⟩ := hf
  have hx : ObjOk X.prog X.w H s.heap dd (.xd fs) := I.hok dd _ hdd
  obtain ⟨mA, hns, hr⟩ := hx
  obtain ⟨od, ho, _⟩ := lookIn_ns hns
  have J : PySem.W.InstAt s.heap a oe D (some od) := by
    refine ⟨hget, hz.1, by unfold PySem.W.notCls; rw [hv] <;> rfl, ?_⟩
    rw [hz.2]
    exact ho
  have hcl : (PySem.W.clsIn X.K D).isSome = true := by
    obtain ⟨cd, hc, _⟩ := PySem.W.any_some C.hd
    rw [hc]; rfl
  have Z : PySem.W.KitX X.K (.ref a) (.ref D) (fun h => PySem.W.InstAt h a oe D (some od)) := PySem.W.kitx_exc hcl C.hg C.hk C.hs C.ha C.hn C.ht C.hm
  rcases k with ⟨u, ku, e⟩ | ⟨tp, cs, us', rfl, hT, ku, e⟩
  · have e2 := ku.eq r2
    subst e2
    exact PySem.W.kia_one Z I.kIn J e (fun z => nomatch z) fun tk => ⟨.bl b, H, I.tok tk, rfl, q⟩
  · cases (show u2 = Value.ref tp from r2)
    obtain ⟨_, its, rv, o, h1, h2, n, h3⟩ := (show ObjOk X.prog X.w H s.heap tp (.tup cs) from I.hok tp _ hT)
    have e3 := ClsV.all ku rv
    subst e3
    obtain ⟨oc, od', dt, sl⟩ := o
    simp only at h2 h3
    subst h2 h3
    exact PySem.W.kia_tup Z I.kIn J h1 e (fun z => nomatch z) fun tk => ⟨.bl b, H, I.tok tk, rfl, q⟩
/-! ### an error with one number -/
end Cr
/-! the program's own defs -/
namespace Cr
open PySem PySem.Spec PyProof.Rows L2 Evl
def topS (i : Nat) : Stmt := PySem.Challenge.pw_cycleready_k44_exports.main.body.getD i (.Pass ⟨0, 0, 0, 0⟩)
abbrev sIsInteger : Stmt := topS 12
abbrev sIsName : Stmt := topS 13
theorem scIsInteger : FnScope ["value"] ["value"] (defScope sIsInteger) := ⟨rfl, rfl, rfl, by decide +kernel, rfl, by decide +kernel, by decide +kernel⟩
theorem scIsName : FnScope ["value", "letter"] ["value"] (defScope sIsName) := ⟨rfl, rfl, rfl, by decide +kernel, rfl, by decide +kernel, by decide +kernel⟩
/-- the built-ins are the built-ins -/
structure Blt (mg : Str → Option Value) : Prop where
  isi : mg "isinstance" = none
  int : mg "int" = none
  bool : mg "bool" = none
  str : mg "str" = none
  tuple : mg "tuple" = none
  list : mg "list" = none
  len : mg "len" = none
  all : mg "all" = none
  zip : mg "zip" = none
  repr : mg "repr" = none
  range : mg "range" = none
  max : mg "max" = none
  min : mg "min" = none
  abs : mg "abs" = none
  divmod : mg "divmod" = none
  enum : mg "enumerate" = none
  sorted : mg "sorted" = none
  sup : mg "super" = none
  verr : mg "ValueError" = none
  rerr : mg "RuntimeError" = none
  dict : mg "dict" = none
  lerr : mg "LookupError" = none
  kerr : mg "KeyError" = none
  aerr : mg "ArithmeticError" = none
  set : mg "set" = none
  any : mg "any" = none
theorem bSet : bootBuiltins "set" = some (.type "set") := by decide +kernel
theorem bIsi : bootBuiltins "isinstance" = some (.builtin "isinstance") := by decide +kernel
theorem bLen : bootBuiltins "len" = some (.builtin "len") := by decide +kernel
theorem bAll : bootBuiltins "all" = some (.builtin "all") := by decide +kernel
theorem bRepr : bootBuiltins "repr" = some (.builtin "repr") := by decide +kernel
theorem bInt : bootBuiltins "int" = some (.type "int") := by decide +kernel
theorem bBool : bootBuiltins "bool" = some (.type "bool") := by decide +kernel
theorem bStr : bootBuiltins "str" = some (.type "str") := by decide +kernel
theorem bTuple : bootBuiltins "tuple" = some (.type "tuple") := by decide +kernel
theorem bDict : bootBuiltins "dict" = some (.type "dict") := by decide +kernel
theorem bVerr : bootBuiltins "ValueError" = some (.type "ValueError") := by decide +kernel
theorem bRerr : bootBuiltins "RuntimeError" = some (.type "RuntimeError") := by decide +kernel
theorem bList : bootBuiltins "list" = some (.type "list") := by decide +kernel
/-! ### what they say -/
def isInteger (d : PyData) : Bool := isT "int" d && !isT "bool" d
def atLeast (n : Int) : PyData → Bool
  | .int i => decide (n ≤ i)
  | _ => false
def isNameS (x : Str) : Bool := (decide ((1 : Int) ≤ x.length) && decide ((x.length : Int) ≤ 8)) && x.cps.toList.all isLow
def isName : PyData → Bool
  | .str x => isNameS x
  | _ => false
def vars4 : List Str := ["a", "b", "c", "d"]
def isVar : PyData → Bool
  | .str x => vars4.any fun y => y == x
  | _ => false
section
variable {P : Program} {w : World} {K : PySem.W.Frag} {mg : Str → Option Value} {base : Heap}
theorem memI : "int" ∈ ["int", "bool", "str", "list", "tuple", "dict"] := by decide
theorem memB : "bool" ∈ ["int", "bool", "str", "list", "tuple", "dict"] := by decide
theorem memS : "str" ∈ ["int", "bool", "str", "list", "tuple", "dict"] := by decide
theorem ok_isInteger {f : Addr} {fd : FuncData} {k : Nat} (F : Fun K "is_integer" "is_integer" sIsInteger f fd) (B : Blt mg) : FnOk P w K mg base CX0 (k + 1) f fd ["value"] (spD isInteger) := by
  refine F.ok scIsInteger spD_len (fun cdv A outer s H vs Q E hr h => ?_)
  obtain ⟨v, d, rfl, hd, _, q⟩ := h
  refine ⟨_, pss_one (ps_ret (pe_and (pe_callB call_isi (by rfl) B.isi bIsi (pa_cons (pv 0) (pa_cons (pe_bltn (v := .ty "int") (by rfl) B.int bInt rfl) pa_nil)))
    (pe_one (pe_not (pe_callB call_isi (by rfl) B.isi bIsi (pa_cons (pv 0) (pa_cons (pe_bltn (v := .ty "bool") (by rfl) B.bool bBool rfl) pa_nil))))))), ?_⟩
  refine s_ret (ev_andV (ev_cb (ea_cons (ev_var rfl) (ea_cons ev_c ea_nil)) (rc_isi hd memI)) fun _ => ev_notV (ev_cb (ea_cons (ev_var rfl) (ea_cons ev_c ea_nil)) (rc_isi hd memB))) q
theorem ok_isName {f : Addr} {fd : FuncData} {k : Nat} (F : Fun K "is_name" "is_name" sIsName f fd) (B : Blt mg) {tL : Tok} (gL : mg "LONGEST_NAME" = some (.int 8 tL)) : FnOk P w K mg base CX0 (k + 1) f fd ["value"] (spD isName) := by
  refine F.ok scIsName spD_len (fun cdv A outer s H vs Q E hr h => ?_)
  obtain ⟨v, d, rfl, hd, hs, q⟩ := h
  refine ⟨_, pss_cons (ps_if (PW.pt (pw_or (pt_not (pt_val (pe_callB call_isi (by rfl) B.isi bIsi (pa_cons (pv 0) (pa_cons (pe_bltn (v := .ty "str") (by rfl) B.str bStr rfl) pa_nil)))))
      (pw_or1 (pt_not (pt_chain op_le op_le pe_int (pe_callB call_len_str (by rfl) B.len bLen (pa_cons (pv 0) pa_nil)) (pe_glob (v := .int 8) (by rfl) gL ⟨_, rfl⟩))))))
      (pss_one (ps_ret pe_bl)) pss_nil)
    (pss_one (ps_ret (pe_callB (cr_all rfl) (by rfl) B.all bAll (pa_cons
      (pe_lc (own := [("letter", 1)]) (g := gName 1) (tt := tYes) rfl scIsName.nd (pi_str (pv 0)) (blkOk_by (own := [("letter", 1)]) (N := ["value", "letter"]) (sc := defScope sIsName) (by decide +kernel))
        (fun _ _ _ _ _ => pg_name (i := 1) scIsName.nd rfl (Or.inl rfl)) (fun _ _ _ _ _ => pts_nil) (fun _ _ _ _ _ => pe_chain op_leS op_leS pe_str (pv 1) pe_str)) pa_nil)))), ?_⟩
  have isS := rc_isi (K := K) hd memS
  cases hd with
  | str x =>
    have hx : x.length ≤ 1000 := by
      rw [sm] at hs
      exact of_decide_eq_true hs
    refine q_when (et_or (et_not (et_B (ev_cb (ea_cons (ev_var rfl) (ea_cons ev_c ea_nil)) isS))) fun _ => et_not (et_test (ev_chain ev_c (ev_cb (ea_cons (ev_var rfl) ea_nil) (rc_lenS hx)) rv_I0 (fun _ => ev_c) fun _ => rv_I0))) (fun hb H1 e1 => ?_) (fun hb H1 e1 => ?_)
    · refine s_ret ev_c fun H2 e2 => ?_
      have z : isName (.str x) = false := by
        have hb' : (!(isT "str" (.str x)) || !(decide ((1 : Int) ≤ x.length) && decide ((x.length : Int) ≤ 8))) = true := hb
        have e : isT "str" (.str x) = true := rfl
        rw [e, Bool.not_true, Bool.false_or] at hb'
        show ((decide ((1 : Int) ≤ x.length) && decide ((x.length : Int) ≤ 8)) && x.cps.toList.all isLow) = false
        rw [Bool.not_eq_true'] at hb'
        rw [hb', Bool.false_and]
      have g := q H2 (e1.trans e2)
      rw [z] at g
      exact g
    · have ch : ∀ c : Nat, (!decide ((⟨#[c]⟩ : Str).cps.toList < (("a" : Str)).cps.toList) && !decide ((("z" : Str)).cps.toList < (⟨#[c]⟩ : Str).cps.toList)) = isLow c := fun c => by
        have ea : (("a" : Str)).cps.toList = [97] := by decide +kernel
        have ez : (("z" : Str)).cps.toList = [122] := by decide +kernel
        have ec : (⟨#[c]⟩ : Str).cps.toList = [c] := rfl
        rw [ea, ez, ec, one_lt, one_lt]
        unfold isLow
        congr 1
        · by_cases hc : 97 ≤ c
          · rw [decide_eq_true hc, decide_eq_false (show ¬ c < 97 by omega)]; rfl
          · rw [decide_eq_false hc, decide_eq_true (show c < 97 by omega)]; rfl
        · by_cases hc : c ≤ 122
          · rw [decide_eq_true hc, decide_eq_false (show ¬ 122 < c by omega)]; rfl
          · rw [decide_eq_false hc, decide_eq_true (show 122 < c by omega)]; rfl
      have lc := el_lcW (wi := iStr (tVar 0)) (g := gName 1) (tt := tYes) (te := tChain rLeS rLeS (tC (.str "a")) (tVar 1) (tC (.str "z"))) (vs := [1]) (σ := start ["value", "letter"] [V.str x]) (H := H1) (fun _ => true) (fun i => .bl (isLow (x.cps.toList.getD i 0))) (Y := fun i H v H' => H' = H ∧ ∃ c, x.cps[i]? = some c ∧ v = .str ⟨#[c]⟩) (n := x.cps.size) (by have : x.cps.size = x.length := rfl; omega)
        (fun H2 e R r => ⟨.str x, rfl, x, rfl, r H2 _ _ walk_str (fun _ _ _ z => z) (Ex.refl H2) trivial⟩) (fun i y H2 H3 e hi hy => by
          obtain ⟨rfl, c, hc, rfl⟩ := hy
          refine ⟨Ex.refl _, [some (.str x), some (.str ⟨#[c]⟩)], rfl, fun R r => r, fun H4 _ Q q => q H4 (Ex.refl H4), fun _ => ?_⟩
          have ec : x.cps.toList.getD i 0 = c := by
            rw [List.getD, Array.getElem?_toList, hc]; rfl
          show Ev _ _ _ (.bl (isLow (x.cps.toList.getD i 0)))
          rw [ec, ← ch c]
          exact ev_chain ev_c (ev_var rfl) rv_leS (fun _ => ev_c) fun _ => rv_leS)
      have e1' : given x.cps.size (fun _ => true) (fun i => V.bl (isLow (x.cps.toList.getD i 0))) = ((List.range x.cps.size).map fun i => isLow (x.cps.toList.getD i 0)).map V.bl := by
        rw [given_all, List.map_map]; rfl
      rw [e1'] at lc
      refine s_ret (ev_all lc) fun H2 e2 => ?_
      have hb' : (!(isT "str" (.str x)) || !(decide ((1 : Int) ≤ x.length) && decide ((x.length : Int) ≤ 8))) = false := hb
      have e : isT "str" (.str x) = true := rfl
      rw [e, Bool.not_true, Bool.false_or, Bool.not_eq_false'] at hb'
      have z : isName (.str x) = ((List.range x.cps.size).map fun i => isLow (x.cps.toList.getD i 0)).all id := by
        show ((decide ((1 : Int) ≤ x.length) && decide ((x.length : Int) ≤ 8)) && x.cps.toList.all isLow) = _
        rw [hb', Bool.true_and, ← all_range x.cps.toList 0 isLow]
        rfl
      have g := q H2 (e1.trans e2)
      rw [z] at g
      exact g
  | _ =>
    refine q_when (b := true) (et_is (et_or (et_not (et_B (ev_cb (ea_cons (ev_var rfl) (ea_cons ev_c ea_nil)) isS))) (b := false) fun z => absurd z (by first | decide | simp [isT, isTs, tyT])) (by first | decide | simp [isT, isTs, tyT])) (fun _ H1 e1 => s_ret ev_c fun H2 e2 => q H2 (e1.trans e2)) (fun z => absurd z (by decide))
end
end Cr
namespace Cr
open PySem PySem.Spec PyProof.Rows L2 Evl
/-- a tuple of the module's top -/
def KTup (K : PySem.W.Frag) (a : Addr) (xs : List V) : Prop := ∃ (o : Obj) (its : Array Value) (n : Nat), K.lookup a = some o ∧ o.cls = .type "tuple" ∧ o.data = .seq its n ∧ its.size ≤ sizeLine ∧ Vals xs its.toList
theorem KTup.sq {K : PySem.W.Frag} {H : Hp} {a : Addr} {xs : List V} (h : KTup K a xs) : SqT K H a xs := .inr h
/-! ### the mirror -/
def isItem (d : PyData) (k : Str) : Bool :=
  if k = "variable" then isVar d
  else if k = "integer" then isInteger d
  else if k = "length" then isInteger d && atLeast 1 d
  else isName d
def shapeOf (z : Str) : Option (List Str) :=
  if z = "set" then some ["variable", "integer"] else if z = "add" then some ["variable", "variable"] else if z = "skip" then some ["variable", "length"]
  else if z = "export" then some ["name", "variable"] else if z = "read" then some ["variable", "module", "name"] else if z = "need" then some ["module"]
  else if z = "try" then some ["module", "variable"] else if z = "fail" then some [] else none
def stepItems (ds : List PyData) (ks : List Str) : Bool := ((List.range ks.length).map fun i => isItem (ds.getD i .none) (ks.getD i "")).all id
def isStep : PyData → Bool
  | .tuple (.str z :: ds) => (match shapeOf z with
    | some ks => decide (ds.length = ks.length) && stepItems ds ks
    | none => false)
  | _ => false
theorem inV_strs (z : Str) (l : List Str) : inV (.str z) (l.map V.str) = l.any fun y => y == z := by
  unfold inV
  rw [List.any_map]
  rfl
theorem flat_strs (l : List Str) : (l.map V.str).all flatV = true := by
  rw [List.all_map]
  exact List.all_eq_true.mpr fun _ _ => rfl
end Cr
namespace Cr
open PySem PySem.Spec PyProof.Rows L2 Evl
theorem len_add (a b : Str) : (a ++ b).length = a.length + b.length := by
  show (a.cps ++ b.cps).size = _
  rw [Array.size_append]
  rfl
/-! ### flat values -/
def flD : V → PyData
  | .bl b => .bool b
  | .int i => .int i
  | .str x => .str x
  | _ => .none
theorem dt_flat {H : Hp} {v : V} (h : flatV v = true) : Dt H v (flD v) := by
  cases v with
  | non => exact .non
  | bl b => exact .bl b
  | int i => exact .int i
  | str x => exact .str x
  | _ => exact absurd h (fun z => nomatch z)
theorem dtAll_flat {H : Hp} : ∀ {xs : List V}, xs.all flatV = true → DtAll H xs (xs.map flD)
  | [], _ => .nil
  | x :: r, h => by
    rw [List.all_cons, Bool.and_eq_true] at h
    exact .cons (dt_flat h.1) (dtAll_flat h.2)
/-! ### the steps -/
/-- one step over drawn names -/
def skipLen : PyData → Option Int
  | .tuple (.str z :: _ :: .int i :: _) => if z = "skip" then some i else none
  | _ => none
def skipOk (n : Int) (d : PyData) : Bool :=
  match skipLen d with
  | some i => decide (i ≤ n)
  | none => true
def isBefore (d : PyData) (n : Int) : Bool := isStep d && skipOk n d
def isExport : PyData → Bool
  | .tuple (.str z :: _) => z == "export"
  | _ => false
/-- the spot of a module in a step -/
def spotOf (z : Str) : Option Nat := if z = "need" then some 1 else if z = "try" then some 1 else if z = "read" then some 2 else none
def strOf : PyData → Option Str
  | .str x => some x
  | _ => none
/-- the module of a step -/
def modO : PyData → Option Str
  | .tuple (.str z :: ds) => (spotOf z).bind fun i => strOf ((PyData.str z :: ds).getD i .none)
  | _ => none
end Cr
namespace Cr
open PySem PySem.Spec PyProof.Rows L2 Evl
/-- a def of the program as it is called -/
structure HasO (P : Program) (w : World) (K : PySem.W.Frag) (mg : Str → Option Value) (base : Heap) (k : Nat) (x : Str) (ps : List Str) (sp : Sp) : Prop where
  ex : ∃ f fd, FnOk P w K mg base CX0 k f fd ps sp ∧ Binds K fd ps [] ∧ PySem.W.keepIn K (.ref f) = true ∧ mg x = some (.ref f)
/-- .. that may raise -/
structure HasE (P : Program) (w : World) (K : PySem.W.Frag) (mg : Str → Option Value) (base : Heap) (k : Nat) (x : Str) (ps : List Str) (sp : Sp) : Prop where
  ex : ∃ f fd, FnOk P w K mg base (L2.CX P w) k f fd ps sp ∧ Binds K fd ps [] ∧ PySem.W.keepIn K (.ref f) = true ∧ mg x = some (.ref f)
theorem fnUp {P : Program} {w : World} {K : PySem.W.Frag} {mg : Str → Option Value} {base : Heap} {CX : CXT} {j k : Nat} {f : Addr} {fd : FuncData} {ps : List Str} {sp : Sp} (F : FnOk P w K mg base CX j f fd ps sp) (le : j ≤ k) : FnOk P w K mg base CX k f fd ps sp :=
  ⟨F.len, fun A outer s H args us vs Q E hr e hb r h => F.run A outer s H args us vs Q E (hr.mono le) e hb r h⟩
theorem HasO.up {P : Program} {w : World} {K : PySem.W.Frag} {mg : Str → Option Value} {base : Heap} {x : Str} {ps : List Str} {sp : Sp} {j k : Nat} (h : HasO P w K mg base j x ps sp) (le : j ≤ k) : HasO P w K mg base k x ps sp := by
  obtain ⟨f, fd, G, b, kp, g⟩ := h.ex
  exact ⟨⟨f, fd, fnUp G le, b, kp, g⟩⟩
theorem HasE.up {P : Program} {w : World} {K : PySem.W.Frag} {mg : Str → Option Value} {base : Heap} {x : Str} {ps : List Str} {sp : Sp} {j k : Nat} (h : HasE P w K mg base j x ps sp) (le : j ≤ k) : HasE P w K mg base k x ps sp := by
  obtain ⟨f, fd, G, b, kp, g⟩ := h.ex
  exact ⟨⟨f, fd, fnUp G le, b, kp, g⟩⟩
/-! ### errors with one number -/
/-- where an own error's class stands, and its __init__ -/
structure ErrAt (P : Program) (K : PySem.W.Frag) (mg : Str → Option Value) (C fI : Addr) (fd : FuncData) (b : XB) (cn qual fld : Str) (st : Stmt) : Prop where
  ex : ∃ (cda cc : Addr) (oc : Value) (od an : Option Addr) (kV doc pm ct : Value) (osl : Array (Option Value)),
    fd = PySem.W.ksFn "__init__" qual (defArgs st) (defBody st) (defScope st) .none kV doc pm an (.ref cda) ct cc ∧
    K.lookup fI = some ⟨oc, od, .func fd, osl⟩ ∧ PySem.W.codeIn K (.ref cda) qual = true ∧ SupG P K C cda cc b
  init : PySem.W.findIn K (.ref C) "__init__" = some (some (.ref fI))
  fn : PySem.W.typeIn K (.ref fI) = some (.type "function")
  no : PySem.W.findIn K (.ref C) fld = some none
  at_ : mg cn = some (.ref C)
end Cr
namespace Cr
open PySem PySem.Spec PyProof.Rows L2 Evl
/-- the modules that are allowed: all, or those of a list -/
def MdAt (H : Hp) (m : V) : Option (List V) → Prop
  | none => m = .non
  | some xs => ∃ a, m = .ref a ∧ H a = some (.lst xs) ∧ xs.all flatV = true
theorem MdAt.ex {H H' : Hp} {m : V} {ms : Option (List V)} (e : Ex H H') (h : MdAt H m ms) : MdAt H' m ms := by
  cases ms with
  | none => exact h
  | some xs =>
    obtain ⟨a, h1, h2, h3⟩ := h
    exact ⟨a, h1, e _ _ h2, h3⟩
def modsOk (ms : Option (List V)) (d : PyData) : Bool :=
  match ms with
  | none => true
  | some xs => (modO d).toList.all fun x => inV (.str x) xs
def fitsIn (ms : Option (List V)) (d : PyData) (n : Int) : Bool := isBefore d n && modsOk ms d
end Cr
namespace Cr
open PySem PySem.Spec PyProof.Rows L2 Evl
def wrongAt (ms : Option (List V)) (main : Bool) (ds : List PyData) (i : Nat) : Bool := !fitsIn ms (ds.getD i .none) ((ds.length : Int) - i - 1) || (main && isExport (ds.getD i .none))
def firstBad (ms : Option (List V)) (main : Bool) (ds : List PyData) : Option Nat := (List.range ds.length).find? (wrongAt ms main ds)
def dueOf (ms : Option (List V)) (main : Bool) : PyData → Option Int
  | .list ds => if ds.length > 30 then some (-1) else (firstBad ms main ds).map fun i => (i : Int)
  | _ => some (-1)
def spCheck (C : Addr) : Sp := fun vs H Q E => ∃ v d main, vs = [v, .bl main] ∧ Dt H v d ∧ sm d = true ∧ (dueOf none main d = none → ∀ H', Ex H H' → Q .non H') ∧
  ∀ i, dueOf none main d = some i → ∀ dx H', H dx = none → Ex H H' → H' dx = some (.xd [("position", .int i)]) → E (.ref C) (some dx) H'
end Cr
namespace Cr
open PySem PySem.Spec PyProof.Rows L2 Evl
abbrev sBareW : Stmt := topS 15
theorem scBareW : FnScope ["word"] ["word"] (defScope sBareW) := ⟨rfl, rfl, rfl, by decide +kernel, rfl, by decide +kernel, by decide +kernel⟩
/-- check_program, as it is called: one value, or is_main by its name -/
structure HasC (P : Program) (w : World) (K : PySem.W.Frag) (mg : Str → Option Value) (base : Heap) (k : Nat) (C : Addr) : Prop where
  ex : ∃ f fd, FnOk P w K mg base (L2.CX P w) k f fd ["value", "is_main"] (spCheck C) ∧ (∃ ds, Vals [.bl false] ds ∧ Binds K fd ["value", "is_main"] ds) ∧ (∃ g, KBn K fd ["value", "is_main"] 1 ["is_main"] g (fun vs zs => vs ++ zs)) ∧
    PySem.W.keepIn K (.ref f) = true ∧ mg "check_program" = some (.ref f)
/-! ### bare values -/
def spBareW : Sp := fun vs H Q _ => ∃ x : Str, vs = [.str x] ∧ x.length ≤ 1000 ∧ ∀ H', Ex H H' → Q (.str x) H'
/-- steps stand at the places xs: tuples of the values vss -/
def Steps (H : Hp) : List V → List (List V) → Prop
  | [], [] => True
  | x :: xs, vs :: vss => (∃ t, x = .ref t ∧ H t = some (.tup vs)) ∧ Steps H xs vss
  | _, _ => False
/-- all tuples stand as they stood -/
def Tps (H H' : Hp) : Prop := ∀ a xs, H a = some (.tup xs) → H' a = some (.tup xs)
theorem Ex.tps {H H' : Hp} (e : Ex H H') : Tps H H' := fun a xs h => e a _ h
theorem Tps.refl (H : Hp) : Tps H H := fun _ _ h => h
theorem Tps.trans {H H1 H2 : Hp} (a : Tps H H1) (b : Tps H1 H2) : Tps H H2 := fun x o h => b x o (a x o h)
theorem Tps.upd {H H' : Hp} {p : Addr} {o : HO} (a : Tps H H') (h : ∀ xs, H' p ≠ some (.tup xs)) : Tps H (upd H' p o) := fun x xs z => by
  have y := a x xs z
  rw [upd_ne (fun e => h xs (by rw [← e]; exact y))]
  exact y
theorem Steps.tps {H H' : Hp} (e : Tps H H') : ∀ {xs : List V} {vss : List (List V)}, Steps H xs vss → Steps H' xs vss
  | [], [], _ => trivial
  | _ :: _, _ :: _, ⟨⟨t, h1, h2⟩, h⟩ => ⟨⟨t, h1, e _ _ h2⟩, Steps.tps e h⟩
theorem Steps.length {H : Hp} : ∀ {xs : List V} {vss : List (List V)}, Steps H xs vss → xs.length = vss.length
  | [], [], _ => rfl
  | _ :: _, _ :: _, ⟨_, h⟩ => by rw [List.length_cons, List.length_cons, Steps.length h]
theorem Steps.get {H : Hp} : ∀ {xs : List V} {vss : List (List V)} {i : Nat} {vs : List V}, Steps H xs vss → vss[i]? = some vs → ∃ t, xs[i]? = some (.ref t) ∧ H t = some (.tup vs)
  | [], [], _, _, _, h => by simp at h
  | _ :: _, _ :: _, 0, _, ⟨⟨t, h1, h2⟩, _⟩, h => by simp at h; subst h; exact ⟨t, by rw [h1]; rfl, h2⟩
  | _ :: _, _ :: _, i + 1, _, ⟨_, r⟩, h => by
    obtain ⟨t, a, b⟩ := Steps.get (i := i) r (by simpa using h)
    exact ⟨t, by simpa using a, b⟩
theorem Steps.take {H : Hp} {xs : List V} {vss : List (List V)} (h : Steps H xs vss) : ∀ {i : Nat}, Steps H (xs.take i) (vss.take i) := by
  intro i
  induction i generalizing xs vss with
  | zero => rw [List.take_zero, List.take_zero]; trivial
  | succ i ih =>
    match xs, vss, h with
    | [], [], _ => trivial
    | _ :: _, _ :: _, ⟨a, r⟩ => exact ⟨a, ih r⟩
/-- the data of such steps -/
def stepsD (vss : List (List V)) : List PyData := vss.map fun vs => .tuple (vs.map flD)
theorem Steps.dt {H : Hp} : ∀ {xs : List V} {vss : List (List V)}, Steps H xs vss → (∀ vs ∈ vss, vs.all flatV = true) → DtAll H xs (stepsD vss)
  | [], [], _, _ => .nil
  | _ :: _, vs :: vss, ⟨⟨t, h1, h2⟩, r⟩, hf => by
    subst h1
    exact .cons (.tup h2 (dtAll_flat (hf vs List.mem_cons_self))) (Steps.dt r fun v hv => hf v (List.mem_cons_of_mem _ hv))
theorem join_one (x : Str) : Txt.join ("" : Str) [x] = x := by
  rw [TL.join_eq]
  rfl
section
variable {P : Program} {w : World} {K : PySem.W.Frag} {mg : Str → Option Value} {base : Heap}
theorem ok_bareW {f : Addr} {fd : FuncData} {k : Nat} (F : Fun K "bare_word" "bare_word" sBareW f fd) : FnOk P w K mg base CX0 (k + 1) f fd ["word"] spBareW := by
  refine F.ok scBareW (fun vs H Q E h => by obtain ⟨_, rfl, _⟩ := h; rfl) (fun cdv A outer s H vs Q E hr h => ?_)
  obtain ⟨x, rfl, hx, q⟩ := h
  refine ⟨_, pss_one (ps_ret (pe_join pe_str (pe_lst (pa_cons (pv 0) pa_nil)))), ?_⟩
  refine ⟨⟨_, rfl⟩, _, rfl, by show 1 ≤ sizeLine; decide, fun l hl => ⟨_, l, [x], rfl, rfl, .inl (sq_of upd_same), ?_, ?_⟩⟩
  · have e0 : (("" : Str)).length = 0 := by decide +kernel
    simp [e0]
    omega
  · have g := q _ (Ex.new (o := .lst [.str x]) hl)
    rw [← join_one x] at g
    exact g
end
end Cr
/-! frames: what they look like -/
namespace Cr
open PySem PySem.Spec PyProof.Rows L2 Evl
/-! ### four variables -/
structure M4 where
  a : Int
  b : Int
  c : Int
  d : Int
def M4.kv (m : M4) : List (Key × V) := [(.inr "a", .int m.a), (.inr "b", .int m.b), (.inr "c", .int m.c), (.inr "d", .int m.d)]
def M4.get (m : M4) (x : Str) : Int := if x = "a" then m.a else if x = "b" then m.b else if x = "c" then m.c else m.d
def M4.set (m : M4) (x : Str) (v : Int) : M4 := if x = "a" then { m with a := v } else if x = "b" then { m with b := v } else if x = "c" then { m with c := v } else { m with d := v }
def M4.all (m : M4) (p : Int → Prop) : Prop := p m.a ∧ p m.b ∧ p m.c ∧ p m.d
def M4.dat (m : M4) : List (PyData × PyData) := [(.str "a", .int m.a), (.str "b", .int m.b), (.str "c", .int m.c), (.str "d", .int m.d)]
theorem M4.dt {H : Hp} (m : M4) : DtKv H m.kv m.dat := .cons (.int _) (.cons (.int _) (.cons (.int _) (.cons (.int _) .nil)))
/-! ### what else stands as it stood -/
def But (l : List Addr) (H H' : Hp) : Prop := ∀ a o, a ∉ l → H a = some o → H' a = some o
theorem But.refl {l : List Addr} (H : Hp) : But l H H := fun _ _ _ h => h
theorem But.trans {l : List Addr} {H H1 H2 : Hp} (a : But l H H1) (b : But l H1 H2) : But l H H2 := fun x o n h => b x o n (a x o n h)
theorem But.of {l : List Addr} {H H' : Hp} (e : Ex H H') : But l H H' := fun a o _ h => e a o h
theorem But.upd {l : List Addr} {H H' : Hp} {p : Addr} {o : HO} (h : But l H H') (hp : p ∈ l) : But l H (upd H' p o) := fun a u n z => by
  rw [upd_ne (fun e => n (by rw [e]; exact hp))]
  exact h a u n z
theorem But.mono {l l' : List Addr} {H H' : Hp} (h : But l H H') (s : ∀ a ∈ l, a ∈ l') : But l' H H' := fun a o n z => h a o (fun y => n (s a y)) z
/-! ### the frame -/
/-- its addresses: its own dict, steps, memory, visited -/
structure FrA where
  dx : Addr
  aS : Addr
  aM : Addr
  aV : Addr
def fl (A : FrA) (pos : Nat) : List (Str × V) := [("steps", .ref A.aS), ("position", .int (pos : Int)), ("memory", .ref A.aM), ("visited", .ref A.aV)]
def own (p : Addr) (A : FrA) : List Addr := [p, A.aM, A.aV]
structure FrameAt (C : Addr) (H : Hp) (p : Addr) (A : FrA) (vss : List (List V)) (pos : Nat) (m : M4) (n : Nat) : Prop where
  ob : H p = some (.ins C A.dx (fl A pos))
  st : ∃ xs, H A.aS = some (.lst xs) ∧ Steps H xs vss
  me : H A.aM = some (.dK m.kv)
  vi : ∃ vis, H A.aV = some (.lst vis) ∧ vis.length = n
  sv : A.aS ≠ A.aV
section
variable {C : Addr} {H H' : Hp} {p : Addr} {A : FrA} {vss : List (List V)} {pos : Nat} {m : M4} {n : Nat}
theorem FrameAt.ex (h : FrameAt C H p A vss pos m n) (e : Ex H H') : FrameAt C H' p A vss pos m n := by
  obtain ⟨xs, h1, h2⟩ := h.st
  obtain ⟨vis, h3, h4⟩ := h.vi
  exact ⟨e _ _ h.ob, ⟨xs, e _ _ h1, h2.tps (Ex.tps e)⟩, e _ _ h.me, ⟨vis, e _ _ h3, h4⟩, h.sv⟩
/-- none of its own addresses is changed -/
theorem FrameAt.but {l : List Addr} (h : FrameAt C H p A vss pos m n) (e : But l H H') (t : Tps H H') (h1 : p ∉ l) (h2 : A.aS ∉ l) (h3 : A.aM ∉ l) (h4 : A.aV ∉ l) : FrameAt C H' p A vss pos m n := by
  obtain ⟨xs, g1, g2⟩ := h.st
  obtain ⟨vis, g3, g4⟩ := h.vi
  exact ⟨e _ _ h1 h.ob, ⟨xs, e _ _ h2 g1, g2.tps t⟩, e _ _ h3 h.me, ⟨vis, e _ _ h4 g3, g4⟩, h.sv⟩
theorem tps_own {l : List Addr} (e : But l H H') (hl : ∀ a ∈ l, ∀ xs, H a ≠ some (.tup xs)) : Tps H H' := fun a xs z => e a _ (fun y => hl a y xs z) z
theorem FrameAt.tps {H' : Hp} (h : FrameAt C H p A vss pos m n) (e : But (own p A) H H') : Tps H H' := tps_own e fun a ha xs z => by
  obtain ⟨vis', g3, g4⟩ := h.vi
  simp only [own, List.mem_cons, List.not_mem_nil, or_false] at ha
  rcases ha with rfl | rfl | rfl
  · rw [h.ob] at z; cases z
  · rw [h.me] at z; cases z
  · rw [g3] at z; cases z
end
/-! ### steps as data -/
def dV : PyData → V
  | .int i => .int i
  | .str x => .str x
  | .bool b => .bl b
  | _ => .non
end Cr
/-! frames: the methods -/
namespace Cr
open PySem PySem.Spec PyProof.Rows L2 Evl
/-- a method as it is called -/
structure HasM (P : Program) (w : World) (K : PySem.W.Frag) (mg : Str → Option Value) (base : Heap) (CX : CXT) (k : Nat) (C : Addr) (m : Str) (ps : List Str) (sp : Sp) : Prop where
  ex : ∃ f fd, FnOk P w K mg base CX k f fd ps sp ∧ Binds K fd ps [] ∧ Meth K C m f
theorem HasM.up {P : Program} {w : World} {K : PySem.W.Frag} {mg : Str → Option Value} {base : Heap} {CX : CXT} {C : Addr} {m : Str} {ps : List Str} {sp : Sp} {j k : Nat} (h : HasM P w K mg base CX j C m ps sp) (le : j ≤ k) : HasM P w K mg base CX k C m ps sp := by
  obtain ⟨f, fd, G, b, kp⟩ := h.ex
  exact ⟨⟨f, fd, fnUp G le, b, kp⟩⟩
section
variable {K : PySem.W.Frag} {σ : L2.St} {H : Hp} {te td ty : TE} {v : V}
theorem q_asgAny {i : Nat} {D : Ends} {tz : TS} (h : te σ H fun v H1 => tz D (σ.set i (some v)) H1) : tSeq (tAsg te (gName i)) tz D σ H := h
theorem q_dropAny {D : Ends} {tz : TS} (h : te σ H fun _ H1 => tz D σ H1) : tSeq (tDrop te) tz D σ H := h
theorem ev_fld {p C dx : Addr} {fs : List (Str × V)} {f : Str} (he : Ev te σ H (.ref p)) (h : H p = some (.ins C dx fs)) (cl : Cls K C) (n : NoAttr K C f) (l : fs.lookup f = some v) : Ev (tFld K te f) σ H v := fun H1 e Q q =>
  he H1 e _ fun H2 e2 => ⟨p, C, dx, fs, v, rfl, (e.trans e2) _ _ h, cl, n, l, q H2 e2⟩
end
end Cr
/-! frames: the making, the plain steps -/
/-! frames: run_plain -/
namespace Cr
open PySem PySem.Spec PyProof.Rows L2 Evl
/-- how far a plain step goes, and the memory behind it -/
def goes (us : List V) (m : M4) : Nat :=
  match us with
  | [.str z, .str x, .int i] => if z = "skip" ∧ m.get x > 0 then 1 + i.toNat else 1
  | _ => 1
end Cr
/-! data whose text is short: by bulk and depth -/
namespace Cr
open PySem PySem.Spec PyProof.Rows L2 Evl
/-- leaves of at most 80 signs, so much bulk, so deep -/
structure Sz (b m : Nat) (d : PyData) : Prop where
  sh : d.showable = true
  lf : d.leavesShort 80 = true
  bk : d.bulk ≤ b
  dp : d.depth ≤ m
structure SzA (b m : Nat) (ds : List PyData) : Prop where
  sh : PyData.showableAll ds = true
  lf : PyData.leavesShortAll 80 ds = true
  bk : PyData.bulkAll ds ≤ b
  dp : PyData.depthAll ds ≤ m
theorem Sz.fits {b m : Nat} {d : PyData} (h : Sz b m d) (hb : b ≤ 100000) (hm : m ≤ 50) : Fits d := by
  refine ⟨h.sh, Nat.le_trans h.dp hm, ?_⟩
  have z := PyData.shown_le_bulk 80 (by decide) d h.lf
  have y := h.bk
  rw [sizeLine_eq]
  omega
theorem Sz.mono {b b' m m' : Nat} {d : PyData} (h : Sz b m d) (hb : b ≤ b') (hm : m ≤ m') : Sz b' m' d := ⟨h.sh, h.lf, Nat.le_trans h.bk hb, Nat.le_trans h.dp hm⟩
theorem sz_int {b m : Nat} {i : Int} (h : i.natAbs ≤ 10 ^ 70) : Sz b m (.int i) := by
  refine ⟨?_, ?_, Nat.zero_le _, Nat.zero_le _⟩
  · rw [PyData.showable]
    refine decide_eq_true ?_
    by_cases hz : i.natAbs = 0
    · rw [hz]; decide
    · have e : (10 : Nat) ^ 70 < 2 ^ 300 := by decide
      have := (Nat.log2_lt (k := 300) hz).mpr (by omega)
      omega
  · rw [PyData.leavesShort]
    refine decide_eq_true ?_
    have e := int_text_length_le10 (k := 71) (a := i) (by decide) (Nat.lt_of_le_of_lt h (by decide))
    show (Str.ofString (toString i)).length ≤ 80
    rw [PySem.ofString_length]
    omega
theorem sz_str {b m : Nat} {x : Str} (hb : x.length ≤ b) (hx : ∀ c ∈ x.cps.toList, c < 1000) : Sz b m (.str x) := by
  refine ⟨rfl, ?_, ?_, Nat.zero_le _⟩
  · rw [PyData.leavesShort]
    exact List.all_eq_true.mpr fun c hc => decide_eq_true (Nat.lt_trans (hx c hc) (by decide))
  · rw [PyData.bulk]
    exact hb
theorem sza_nil {b m : Nat} : SzA b m [] := ⟨rfl, rfl, Nat.zero_le _, Nat.zero_le _⟩
theorem sza_cons {b b' m : Nat} {d : PyData} {ds : List PyData} (h : Sz b m d) (r : SzA b' m ds) : SzA (b + 1 + b') m (d :: ds) := by
  refine ⟨by rw [PyData.showableAll, h.sh, r.sh]; rfl, by rw [PyData.leavesShortAll, h.lf, r.lf]; rfl, ?_, ?_⟩
  · have h1 := h.bk
    have h2 := r.bk
    rw [PyData.bulkAll]
    omega
  · rw [PyData.depthAll]
    exact Nat.max_le.mpr ⟨h.dp, r.dp⟩
theorem sz_list {b m : Nat} {ds : List PyData} (h : SzA b m ds) : Sz b (m + 1) (.list ds) := ⟨by rw [PyData.showable]; exact h.sh, by rw [PyData.leavesShort]; exact h.lf, by rw [PyData.bulk]; exact h.bk, by rw [PyData.depth]; exact Nat.succ_le_succ h.dp⟩
theorem sz_tuple {b m : Nat} {ds : List PyData} (h : SzA b m ds) : Sz b (m + 1) (.tuple ds) := ⟨by rw [PyData.showable]; exact h.sh, by rw [PyData.leavesShort]; exact h.lf, by rw [PyData.bulk]; exact h.bk, by rw [PyData.depth]; exact Nat.succ_le_succ h.dp⟩
theorem sza_all {b m : Nat} : ∀ {ds : List PyData}, (∀ d ∈ ds, Sz b m d) → SzA ((b + 1) * ds.length) m ds
  | [], _ => ⟨rfl, rfl, Nat.zero_le _, Nat.zero_le _⟩
  | d :: r, h => by
    have z := sza_cons (h d List.mem_cons_self) (sza_all fun x hx => h x (List.mem_cons_of_mem _ hx))
    refine ⟨z.sh, z.lf, ?_, z.dp⟩
    have y := z.bk
    rw [List.length_cons, Nat.mul_add, Nat.mul_one]
    omega
end Cr
/-! the law's own draws -/
namespace Cr
open PySem PySem.Spec PyProof.Rows L2 Evl
abbrev sPot : Stmt := topS 23
abbrev sDraw : Stmt := topS 24
abbrev sChoice : Stmt := topS 25
abbrev nPot : List Str := ["_law_script", "_law_index", "_law_cell"]
abbrev nDraw : List Str := ["_law_pot_here", "_law_bound", "_law_digit"]
abbrev nChoice : List Str := ["_law_pot_here", "_law_options"]
theorem scPot : FnScope nPot ["_law_script", "_law_index"] (defScope sPot) := ⟨rfl, rfl, rfl, by decide +kernel, rfl, by decide +kernel, by decide +kernel⟩
theorem scDraw : FnScope nDraw ["_law_pot_here", "_law_bound"] (defScope sDraw) := ⟨rfl, rfl, rfl, by decide +kernel, rfl, by decide +kernel, by decide +kernel⟩
theorem scChoice : FnScope nChoice ["_law_pot_here", "_law_options"] (defScope sChoice) := ⟨rfl, rfl, rfl, by decide +kernel, rfl, by decide +kernel, by decide +kernel⟩
theorem bMax : bootBuiltins "max" = some (.builtin "max") := by decide +kernel
theorem bMin : bootBuiltins "min" = some (.builtin "min") := by decide +kernel
theorem bAbs : bootBuiltins "abs" = some (.builtin "abs") := by decide +kernel
theorem bDivmod : bootBuiltins "divmod" = some (.builtin "divmod") := by decide +kernel
/-- the pot at p -/
def Pot (H : Hp) (p : Addr) : Prop := ∃ x y : Int, H p = some (.lst [.int x, .int y]) ∧ 0 ≤ x ∧ 0 ≤ y ∧ y < 2147483648
/-- drawn from: all but the pot stands as it stood -/
structure Drew (p : Addr) (H H' : Hp) : Prop where
  ex : Ex (wo p H) (wo p H')
  pot : Pot H' p
theorem Drew.trans {p : Addr} {H H1 H2 : Hp} (a : Drew p H H1) (b : Drew p H1 H2) : Drew p H H2 := ⟨a.ex.trans b.ex, b.pot⟩
theorem Drew.refl {p : Addr} {H : Hp} (h : Pot H p) : Drew p H H := ⟨Ex.refl _, h⟩
theorem Pot.ex {p : Addr} {H H' : Hp} (h : Pot H p) (e : Ex H H') : Pot H' p := by
  obtain ⟨x, y, h, r⟩ := h
  exact ⟨x, y, e _ _ h, r⟩
theorem Drew.of {p : Addr} {H H' : Hp} (h : Pot H p) (e : Ex H H') : Drew p H H' := ⟨Ex.wo e, h.ex e⟩
theorem Drew.at {p a : Addr} {H H' : Hp} {o : HO} (d : Drew p H H') (n : a ≠ p) (h : H a = some o) : H' a = some o :=
  (wo_some (d.ex a o (by rw [wo_ne n]; exact h))).2
theorem Drew.set {p : Addr} {H : Hp} {o : HO} {x y : Int} (e : o = .lst [.int x, .int y]) (hx : 0 ≤ x) (hy : 0 ≤ y) (hy2 : y < 2147483648) : Drew p H (upd H p o) :=
  ⟨wo_upd (Ex.refl _), x, y, by rw [upd_same, e], hx, hy, hy2⟩
theorem fresh_drew {p q : Addr} {H H' : Hp} (d : Drew p H H') (hp : Pot H p) (h : H' q = none) : H q = none := by
  cases e : H q with
  | none => rfl
  | some o =>
    by_cases n : q = p
    · subst n
      obtain ⟨x, y, z, _⟩ := d.pot
      rw [z] at h
      cases h
    · rw [d.at n e] at h
      cases h
def spPot (K : PySem.W.Frag) : Sp := fun vs H Q _ => ∃ (a : Addr) (ns : List Int) (i : Nat), vs = [.ref a, .int (i : Int)] ∧ SqL K H a (ns.map V.int) ∧ i < 100 ∧ ∀ p H', H p = none → Ex H H' → Pot H' p → Q (.ref p) H'
def spDraw : Sp := fun vs H Q _ => ∃ (p : Addr) (b : Int), vs = [.ref p, .int b] ∧ 0 < b ∧ b.natAbs.log2 < 9000 ∧ Pot H p ∧ ∀ d H', 0 ≤ d → d < b → Drew p H H' → Q (.int d) H'
def spChoice : Sp := fun vs H Q _ => ∃ (p : Addr), Pot H p ∧
  ((∃ (o : Addr) (xs : List V), vs = [.ref p, .ref o] ∧ o ≠ p ∧ H o = some (.lst xs) ∧ 0 < xs.length ∧ xs.length ≤ 1000 ∧ ∀ v H', v ∈ xs → Drew p H H' → Q v H') ∨
   ∃ z : Str, vs = [.ref p, .str z] ∧ 0 < z.length ∧ z.length ≤ 1000 ∧ ∀ c H', c ∈ z.cps.toList → Drew p H H' → Q (.str ⟨#[c]⟩) H')
section
variable {P : Program} {w : World} {K : PySem.W.Frag} {mg : Str → Option Value} {base : Heap}
theorem ok_pot {f : Addr} {fd : FuncData} {k : Nat} (F : Fun K "_law_pot" "_law_pot" sPot f fd) (B : Blt mg) : FnG P w K mg base CX0 (k + 1) f fd ["_law_script", "_law_index"] (spPot K) := by
  refine okG F scPot (fun vs H Q E h => by obtain ⟨_, _, _, rfl, _⟩ := h; rfl) (fun cdv A outer s H vs Q E hq hr h => ?_)
  obtain ⟨a, ns, i, rfl, hS, hi, q⟩ := h
  refine ⟨_, pss_cons (ps_set (i := 2) scPot.nd rfl (.inl rfl) pe_int)
    (pss_cut (ps_if (pt_cmpR op_lt (pv 1) (pe_callB call_len_seq (by rfl) B.len bLen (pa_cons (pv 0) pa_nil)) (nomark _))
      (pss_one (ps_set (i := 2) scPot.nd rfl (.inl rfl) (pe_callB call_abs (by rfl) B.abs bAbs (pa_cons (pe_ix ix_list (pv 0) (pv 1) (fun _ _ => rfl)) pa_nil)))) pss_nil)
    (pss_one (ps_ret (pe_lst (pa_cons (pe_callB (call_max2 rfl) (by rfl) B.max bMax (pa_cons pe_int (pa_cons (pe_op op_sub (pv 2) (pe_op op_pow pe_int pe_int)) pa_nil)))
      (pa_cons (pe_op op_add (pe_op op_mod (pe_op op_pow (pe_op op_add (pe_op op_add (pe_op op_mod (pv 2) pe_int) (pe_op op_mul pe_int (pv 1))) pe_int) pe_int) pe_int) pe_int) pa_nil)))))), ?_⟩
  refine q_asg ev_c fun H1 e1 => ?_
  refine q_cut (M := fun σ H2 => ∃ c : Int, 0 ≤ c ∧ σ = [some (.ref a), some (.int i), some (.int c)] ∧ Ex H H2) ?_ ?_
  · refine s_when (et_test (ev_op (ev_var rfl) (ev_cb (ea_cons (ev_var rfl) ea_nil) (rc_lenL (ex_l e1 hS))) rv_I0)) (fun hb H2 e2 => ?_) (fun hb H2 e2 => ⟨0, Int.le_refl 0, rfl, e1.trans e2⟩)
    have hlt := of_decide_eq_true hb
    rw [List.length_map] at hlt
    have hlt2 : i < ns.length := by omega
    refine s_asg (v := .int (if ns[i] < 0 then -ns[i] else ns[i])) (ev_cb (ea_cons (ev_op (ev_var rfl) (ev_var rfl) (rv_ixL (ex_l (e1.trans e2) hS) (atI_nat (j := i) (v := .int ns[i]) (by rw [List.getElem?_map, List.getElem?_eq_getElem hlt2]; rfl)))) ea_nil) (fun H3 _ Q q => ⟨_, rfl, q H3 (Ex.refl H3)⟩)) fun H3 e3 => ?_
    exact ⟨_, by split <;> omega, rfl, (e1.trans e2).trans e3⟩
  · rintro σ H2 ⟨c, hc, rfl, e2⟩
    have hm : 0 ≤ c % 2147483629 ∧ c % 2147483629 < 2147483629 := ⟨Int.emod_nonneg _ (by decide), Int.emod_lt_of_pos _ (by decide)⟩
    have hz : (c % 2147483629 + 1013 * (i : Int) + 7).natAbs < 2 ^ 64 := by omega
    have hx : ∀ y : Int, 0 ≤ y % 2147483587 ∧ y % 2147483587 < 2147483587 := fun y => ⟨Int.emod_nonneg _ (by decide), Int.emod_lt_of_pos _ (by decide)⟩
    have hx1 := hx ((c % 2147483629 + 1013 * (i : Int) + 7) ^ (3 : Int).toNat)
    refine s_retL (el_lst (ea_cons (ev_cb (ea_cons ev_c (ea_cons (ev_op (ev_var rfl) (ev_op ev_c ev_c (rv_I ⟨by decide, by decide, by decide⟩)) rv_I0) ea_nil)) (fun H3 _ Q q => ⟨_, _, rfl, q H3 (Ex.refl H3)⟩))
      (ea_cons (ev_op (ev_op (ev_op (ev_op (ev_op (ev_op (ev_var rfl) ev_c (rv_I (by show (0 : Int) < 2147483629; decide))) (ev_op ev_c (ev_var rfl) (rv_I (.inl ⟨by decide, by decide⟩))) rv_I0) ev_c rv_I0) ev_c (rv_I ⟨by decide, by decide, hz⟩)) ev_c (rv_I (by show (0 : Int) < 2147483587; decide))) ev_c rv_I0) ea_nil)) (by show 2 ≤ 100000; decide)) fun p H3 hp e3 h3 => ?_
    refine q p H3 (fresh_back e2 hp) (e2.trans e3) ⟨_, _, h3, ?_, ?_, ?_⟩
    · split <;> omega
    · omega
    · omega
end
end Cr
namespace Cr
open PySem PySem.Spec PyProof.Rows L2 Evl
/-- the law's helpers as they are called: the promise, how it binds, where it stands -/
structure Has (P : Program) (w : World) (K : PySem.W.Frag) (mg : Str → Option Value) (base : Heap) (k : Nat) (x : Str) (ps : List Str) (sp : Sp) : Prop where
  ex : ∃ f fd, FnG P w K mg base CX0 k f fd ps sp ∧ Binds K fd ps [] ∧ PySem.W.keepIn K (.ref f) = true ∧ mg x = some (.ref f)
theorem divp_small {i j : Int} (h : 0 < j) (hj : j.natAbs.log2 < 9000) : CDivP i j := by
  refine ⟨h, ?_⟩
  show (decide ((if j == 0 then 0 else j.natAbs.log2 / 30 + 1) > 300) && decide ((if i == 0 then 0 else i.natAbs.log2 / 30 + 1) > (if j == 0 then 0 else j.natAbs.log2 / 30 + 1) + 150)) = false
  rw [if_neg (show ¬ (j == 0) = true by simpa using (show j ≠ 0 by omega)), decide_eq_false (show ¬ j.natAbs.log2 / 30 + 1 > 300 by omega), Bool.false_and]
section
variable {P : Program} {w : World} {K : PySem.W.Frag} {mg : Str → Option Value} {base : Heap}
theorem ok_draw {f : Addr} {fd : FuncData} {k : Nat} (F : Fun K "_law_draw" "_law_draw" sDraw f fd) (B : Blt mg) : FnG P w K mg base CX0 (k + 1) f fd ["_law_pot_here", "_law_bound"] spDraw := by
  refine okG F scDraw (fun vs H Q E h => by obtain ⟨_, _, rfl, _⟩ := h; rfl) (fun cdv A outer s H vs Q E hq hr h => ?_)
  obtain ⟨p, b, rfl, hb, hb2, ⟨x, y, hp, hx, hy, hy2⟩, q⟩ := h
  refine ⟨_, pss_cons (ps_if (pt_cmpR op_gt (pe_ix ix_list (pv 0) pe_int (fun _ _ => rfl)) pe_int (nomark _))
      (pss_cons (ps_asg (pe_callB call_divmodW (by rfl) B.divmod bDivmod (pa_cons (pe_ix ix_list (pv 0) pe_int (fun _ _ => rfl)) (pa_cons (pv 1) pa_nil)))
          (pg_tup rfl (pgs_cons (pg_sub (pv 0) pe_int set_list) (pgs_cons (pg_name (i := 2) scDraw.nd rfl (.inl rfl)) pgs_nil))))
        (pss_one (ps_ret (pv 2)))) pss_nil)
    (pss_cons (ps_asg (pe_op op_mod (pe_op op_add (pe_op op_mul (pe_ix ix_list (pv 0) pe_int (fun _ _ => rfl)) pe_int) pe_int) pe_int) (pg_sub (pv 0) pe_int set_list))
    (pss_one (ps_ret (pe_op op_mod (pe_op op_fdiv (pe_op op_mod (pe_op op_mul (pe_ix ix_list (pv 0) pe_int (fun _ _ => rfl)) (pe_ix ix_list (pv 0) pe_int (fun _ _ => rfl))) pe_int) pe_int) (pv 1))))), ?_⟩
  have i0 : atI [V.int x, V.int y] 0 = some (.int x) := atI_nat (j := 0) rfl
  have i1 : ∀ z : Int, atI [V.int x, V.int z] 1 = some (.int z) := fun z => atI_nat (j := 1) rfl
  refine q_when (et_test (ev_op (ev_op (ev_var rfl) ev_c (rv_ixL (sq_of hp) i0)) ev_c rv_I0)) (fun hc H1 e1 => ?_) (fun hc H1 e1 => ?_)
  · -- the digits
    have hx1 : 0 < x := of_decide_eq_true hc
    have hp1 := e1 _ _ hp
    refine ev_op (ev_var rfl) ev_c (rv_ixL (K := K) (sq_of hp1) i0) H1 (Ex.refl H1) _ fun H2 e2 => ?_
    refine ⟨.int b, rfl, x, b, rfl, divp_small hb hb2, fun t ht => ?_⟩
    have tp : p ≠ t := ne_of_none (e2 _ _ hp1) ht
    refine ⟨t, [.int (x / b), .int (x % b)], rfl, .inl (.inl upd_same), rfl, .int (x / b), [.int (x % b)], rfl, .ref p, rfl, p, [.int x, .int y], 0, 0, rfl, rfl, ?_, rfl, .int (x % b), [], rfl, rfl, .int (x % b), rfl, ?_⟩
    · rw [upd_ne tp]
      exact e2 _ _ hp1
    · refine q (x % b) _ (Int.emod_nonneg _ (by omega)) (Int.emod_lt_of_pos _ hb) ?_
      refine Drew.trans (H1 := upd H2 t (.tup [.int (x / b), .int (x % b)])) (Drew.of ⟨x, y, hp, hx, hy, hy2⟩ ((e1.trans e2).trans (Ex.new ht))) ?_
      exact Drew.set rfl (Int.ediv_nonneg hx (by omega)) hy hy2
  · have hp1 := e1 _ _ hp
    have m1 : 0 ≤ (y * 48271 + 10037) % 2147483587 ∧ (y * 48271 + 10037) % 2147483587 < 2147483587 := ⟨Int.emod_nonneg _ (by decide), Int.emod_lt_of_pos _ (by decide)⟩
    generalize ez : (y * 48271 + 10037) % 2147483587 = z at m1
    refine ev_op (z := .int ((y * 48271 + 10037) % 2147483587)) (ev_op (ev_op (ev_op (ev_var rfl) ev_c (rv_ixL (K := K) (sq_of hp1) (i1 y))) ev_c (rv_I (.inl ⟨by omega, by omega⟩))) ev_c rv_I0) ev_c (rv_I (by show (0 : Int) < 2147483587; decide)) H1 (Ex.refl H1) _ fun H2 e2 => ?_
    rw [ez]
    refine ⟨.ref p, rfl, p, [.int x, .int y], 1, 1, rfl, rfl, e2 _ _ hp1, rfl, ?_⟩
    have dr : Drew p H (upd H2 p (.lst [.int x, .int z])) := Drew.trans (H1 := H2) (Drew.of ⟨x, y, hp, hx, hy, hy2⟩ (e1.trans e2)) (Drew.set rfl hx m1.1 (by omega))
    have hp3 : (upd H2 p (.lst [.int x, .int z])) p = some (.lst [.int x, .int z]) := upd_same
    have ix : Ev (tOp (rIxL K) (tVar 0) (tC (.int 1))) [some (.ref p), some (.int b), none] (upd H2 p (.lst [.int x, .int z])) (.int z) := ev_op (ev_var rfl) ev_c (rv_ixL (sq_of hp3) (i1 z))
    refine s_ret (ev_op (ev_op (ev_op (ev_op ix ix (rv_I (.inl ⟨by omega, by omega⟩))) ev_c (rv_I (by show (0 : Int) < 2147483563; decide))) ev_c (rv_I ⟨by decide, by decide⟩)) (ev_var rfl) (rv_I (C := fun _ j => 0 < j) hb)) fun H3 e3 => ?_
    exact q _ H3 (Int.emod_nonneg _ (by omega)) (Int.emod_lt_of_pos _ hb) (dr.trans (Drew.of dr.pot e3))
theorem ok_choice {f : Addr} {fd : FuncData} {k : Nat} (F : Fun K "_law_choice" "_law_choice" sChoice f fd) (B : Blt mg) (D : Has P w K mg base k "_law_draw" ["_law_pot_here", "_law_bound"] spDraw) :
    FnG P w K mg base CX0 (k + 1) f fd ["_law_pot_here", "_law_options"] spChoice := by
  obtain ⟨fD, fdD, GD, bD, kD, gD⟩ := D.ex
  refine okG F scChoice (fun vs H Q E h => by obtain ⟨_, _, h⟩ := h; rcases h with ⟨_, _, rfl, _⟩ | ⟨_, rfl, _⟩ <;> rfl) (fun cdv A outer s H vs Q E hq hr h => ?_)
  obtain ⟨p, pot, h⟩ := h
  refine ⟨_, pss_one (ps_ret (pe_ix ix_seq (pv 1) (callG GD hq hr (by rfl) gD kD bD .nil pass0 (pa_cons (pv 0) (pa_cons (pe_callB call_len (by rfl) B.len bLen (pa_cons (pv 1) pa_nil)) pa_nil))) (fun _ _ => rfl))), ?_⟩
  have small : ∀ n : Nat, 0 < n → n ≤ 1000 → ((n : Int)).natAbs.log2 < 9000 := fun n h1 h2 => by
    have : (n : Int).natAbs = n := Int.natAbs_natCast n
    rw [this]
    have := (Nat.log2_lt (k := 10) (by omega)).mpr (show n < 2 ^ 10 by omega)
    omega
  rcases h with ⟨o, xs, rfl, ne, ho, h1, h2, q⟩ | ⟨z, rfl, h1, h2, q⟩
  · refine ⟨.ref o, rfl, .ref p, rfl, .ref o, rfl, .ref o, xs.length, rfl, .inl ⟨xs, sq_of ho, rfl⟩, p, (xs.length : Int), rfl, by omega, small _ h1 h2, pot, fun d H1 d0 d1 dr => ?_⟩
    obtain ⟨j, rfl⟩ := Int.eq_ofNat_of_zero_le d0
    have hj : j < xs.length := by omega
    exact .inl ⟨o, xs, (j : Int), xs[j], rfl, rfl, sq_of (dr.at ne ho), atI_nat (List.getElem?_eq_getElem hj), q _ H1 (List.getElem_mem hj) dr⟩
  · refine ⟨.str z, rfl, .ref p, rfl, .str z, rfl, .str z, z.length, rfl, ⟨sz_of (by omega), rfl⟩, p, (z.length : Int), rfl, by omega, small _ h1 h2, pot, fun d H1 d0 d1 dr => ?_⟩
    obtain ⟨j, rfl⟩ := Int.eq_ofNat_of_zero_le d0
    have hj : j < z.cps.toList.length := by
      have : z.cps.toList.length = z.length := by simp [Str.length]
      omega
    exact .inr (.inr ⟨z, (j : Int), z.cps.toList[j], rfl, rfl, sz_of (by omega), atI_nat (List.getElem?_eq_getElem hj), q _ H1 (List.getElem_mem hj) dr⟩)
end
end Cr
/-! what the top has left, gathered -/
namespace Cr
open PySem PySem.Spec PyProof.Rows L2 Evl
/-- a def of the top, as the head tells it -/
def DefAt (K : PySem.W.Frag) (x : Str) (st : Stmt) : Prop := ∃ (f : Addr) (od an : Option Addr) (sl : Array (Option Value)) (oc kV dc pm cd ct : Value),
  PySem.W.nsIn K mainGlobals x = some (some (.ref f)) ∧ K.lookup f = some ⟨oc, od, .func (PySem.W.fnOf x x (defArgs st) (defBody st) (defScope st) .none kV dc pm an cd ct), sl⟩ ∧ PySem.W.codeIn K cd x = true ∧ PySem.W.keepIn K (.ref f) = true
theorem defAt {K : PySem.W.Frag} {x : Str} {st : Stmt} {f : Addr} {od an : Option Addr} {sl : Array (Option Value)} {oc kV dc pm cd ct : Value} (a : PySem.W.nsIn K mainGlobals x = some (some (.ref f)))
    (l : K.lookup f = some ⟨oc, od, .func (PySem.W.fnOf x x (defArgs st) (defBody st) (defScope st) .none kV dc pm an cd ct), sl⟩) (c : PySem.W.codeIn K cd x = true) (k : PySem.W.keepIn K (.ref f) = true) : DefAt K x st :=
  ⟨f, od, an, sl, oc, kV, dc, pm, cd, ct, a, l, c, k⟩
/-- the binding of so many parameters -/
def BindsAll (x : Str) (st : Stmt) (ps : List Str) : Prop := ∀ (kV doc pm : Value) (an : Option Addr) (cdv ct : Value) (us : List Value), us.length = ps.length → bindArgs (PySem.W.fnOf x x (defArgs st) (defBody st) (defScope st) .none kV doc pm an cdv ct) ⟨us, []⟩ = pure (ps.zip us)
theorem has_mk {P : Program} {w : World} {K : PySem.W.Frag} {mg : Str → Option Value} {base h : Heap} {x : Str} {st : Stmt} {ps : List Str} {sp : Sp} {k : Nat} (X : K.In h) (G : h.Ns mainGlobals mg) (D : DefAt K x st) (hb : BindsAll x st ps)
    (ok : ∀ f fd, Fun K x x st f fd → FnG P w K mg base CX0 k f fd ps sp) : Has P w K mg base k x ps sp := by
  obtain ⟨f, od, an, sl, oc, kV, dc, pm, cd, ct, a, l, c, kp⟩ := D
  have F := fun_mk (st := st) l c kp
  exact ⟨⟨f, _, ok f _ F, F.binds hb, kp, PySem.W.mg_of X G a⟩⟩
theorem hasO_mk {P : Program} {w : World} {K : PySem.W.Frag} {mg : Str → Option Value} {base h : Heap} {x : Str} {st : Stmt} {ps : List Str} {sp : Sp} {k : Nat} (X : K.In h) (G : h.Ns mainGlobals mg) (D : DefAt K x st) (hb : BindsAll x st ps)
    (ok : ∀ f fd, Fun K x x st f fd → FnOk P w K mg base CX0 k f fd ps sp) : HasO P w K mg base k x ps sp := by
  obtain ⟨f, od, an, sl, oc, kV, dc, pm, cd, ct, a, l, c, kp⟩ := D
  have F := fun_mk (st := st) l c kp
  exact ⟨⟨f, _, ok f _ F, F.binds hb, kp, PySem.W.mg_of X G a⟩⟩
theorem hasE_mk {P : Program} {w : World} {K : PySem.W.Frag} {mg : Str → Option Value} {base h : Heap} {x : Str} {st : Stmt} {ps : List Str} {sp : Sp} {k : Nat} (X : K.In h) (G : h.Ns mainGlobals mg) (D : DefAt K x st) (hb : BindsAll x st ps)
    (ok : ∀ f fd, Fun K x x st f fd → FnOk P w K mg base (L2.CX P w) k f fd ps sp) : HasE P w K mg base k x ps sp := by
  obtain ⟨f, od, an, sl, oc, kV, dc, pm, cd, ct, a, l, c, kp⟩ := D
  have F := fun_mk (st := st) l c kp
  exact ⟨⟨f, _, ok f _ F, F.binds hb, kp, PySem.W.mg_of X G a⟩⟩
theorem Has.up {P : Program} {w : World} {K : PySem.W.Frag} {mg : Str → Option Value} {base : Heap} {x : Str} {ps : List Str} {sp : Sp} {j k : Nat} (h : Has P w K mg base j x ps sp) (le : j ≤ k) : Has P w K mg base k x ps sp := by
  obtain ⟨f, fd, G, b, kp, g⟩ := h.ex
  exact ⟨⟨f, fd, G.up le, b, kp, g⟩⟩
theorem HasC.up {P : Program} {w : World} {K : PySem.W.Frag} {mg : Str → Option Value} {base : Heap} {C : Addr} {j k : Nat} (h : HasC P w K mg base j C) (le : j ≤ k) : HasC P w K mg base k C := by
  obtain ⟨f, fd, G, b, b2, kp, g⟩ := h.ex
  exact ⟨⟨f, fd, fnUp G le, b, b2, kp, g⟩⟩
/-! ### tuples and the table of the top -/
theorem ktupV {K : PySem.W.Frag} {a : Addr} {xs : List Str} {its : List Value} {dd : Option Addr} {sl : Array (Option Value)} {n : Nat} (l : K.lookup a = some ⟨.type "tuple", dd, .seq its.toArray n, sl⟩) (v : Vals (xs.map V.str) its) (hz : xs.length ≤ 10) : KTup K a (xs.map V.str) := by
  refine ⟨_, _, _, l, rfl, rfl, ?_, by simpa using v⟩
  have := v.length
  rw [List.length_map] at this
  rw [List.size_toArray, ← this]
  exact sz_of (by omega)
theorem ktup0 {K : PySem.W.Frag} {a : Addr} {dd : Option Addr} {sl : Array (Option Value)} {n : Nat} (l : K.lookup a = some ⟨.type "tuple", dd, .seq #[] n, sl⟩) : KTup K a (([] : List Str).map V.str) := ktupV (xs := ([] : List Str)) l .nil (by show 0 ≤ 10; decide)
/-! ### methods -/
def MethAt (K : PySem.W.Frag) (C : Addr) (m qual : Str) (st : Stmt) : Prop := ∃ (f : Addr) (od an : Option Addr) (sl : Array (Option Value)) (oc kV dc pm cd ct : Value),
  PySem.W.findIn K (.ref C) m = some (some (.ref f)) ∧ PySem.W.isFn K (.ref f) = true ∧ K.lookup f = some ⟨oc, od, .func (PySem.W.fnOf m qual (defArgs st) (defBody st) (defScope st) .none kV dc pm an cd ct), sl⟩ ∧ PySem.W.codeIn K cd qual = true ∧ PySem.W.keepIn K (.ref f) = true ∧ PySem.W.typeIn K (.ref f) = some (.type "function")
theorem methAt {K : PySem.W.Frag} {C : Addr} {m qual : Str} {st : Stmt} {f : Addr} {od an : Option Addr} {sl : Array (Option Value)} {oc kV dc pm cd ct : Value} (a : PySem.W.findIn K (.ref C) m = some (some (.ref f))) (i : PySem.W.isFn K (.ref f) = true)
    (l : K.lookup f = some ⟨oc, od, .func (PySem.W.fnOf m qual (defArgs st) (defBody st) (defScope st) .none kV dc pm an cd ct), sl⟩) (c : PySem.W.codeIn K cd qual = true) (k : PySem.W.keepIn K (.ref f) = true) (t : PySem.W.typeIn K (.ref f) = some (.type "function")) : MethAt K C m qual st :=
  ⟨f, od, an, sl, oc, kV, dc, pm, cd, ct, a, i, l, c, k, t⟩
def BindsM (m qual : Str) (st : Stmt) (ps : List Str) : Prop := ∀ (kV doc pm : Value) (an : Option Addr) (cdv ct : Value) (us : List Value), us.length = ps.length → bindArgs (PySem.W.fnOf m qual (defArgs st) (defBody st) (defScope st) .none kV doc pm an cdv ct) ⟨us, []⟩ = pure (ps.zip us)
theorem hasM_mk {P : Program} {w : World} {K : PySem.W.Frag} {mg : Str → Option Value} {base : Heap} {CX : CXT} {C : Addr} {m qual : Str} {st : Stmt} {ps : List Str} {sp : Sp} {k : Nat} (D : MethAt K C m qual st) (hb : BindsM m qual st ps)
    (ok : ∀ f fd, Fun K m qual st f fd → FnOk P w K mg base CX k f fd ps sp) : HasM P w K mg base CX k C m ps sp := by
  obtain ⟨f, od, an, sl, oc, kV, dc, pm, cd, ct, a, i, l, c, kp, t⟩ := D
  have F := fun_mk (st := st) l c kp
  exact ⟨⟨f, _, ok f _ F, F.binds hb, a, i, kp⟩⟩
/-! ### own errors -/
def ErrK (P : Program) (K : PySem.W.Frag) (C : Addr) (b : XB) (qual fld : Str) (st : Stmt) : Prop := ∃ (fI cda cc : Addr) (oc : Value) (od an : Option Addr) (kV doc pm ct : Value) (osl : Array (Option Value)),
  K.lookup fI = some ⟨oc, od, .func (PySem.W.ksFn "__init__" qual (defArgs st) (defBody st) (defScope st) .none kV doc pm an (.ref cda) ct cc), osl⟩ ∧ PySem.W.codeIn K (.ref cda) qual = true ∧ SupG P K C cda cc b ∧
  PySem.W.findIn K (.ref C) "__init__" = some (some (.ref fI)) ∧ PySem.W.typeIn K (.ref fI) = some (.type "function") ∧ PySem.W.findIn K (.ref C) fld = some none
theorem errK {P : Program} {K : PySem.W.Frag} {C fI cda cc : Addr} {b : XB} {qual fld : Str} {st : Stmt} {oc : Value} {od an : Option Addr} {kV doc pm ct : Value} {osl : Array (Option Value)} (i : PySem.W.findIn K (.ref C) "__init__" = some (some (.ref fI)))
    (l : K.lookup fI = some ⟨oc, od, .func (PySem.W.ksFn "__init__" qual (defArgs st) (defBody st) (defScope st) .none kV doc pm an (.ref cda) ct cc), osl⟩) (c : PySem.W.codeIn K (.ref cda) qual = true) (s : SupG P K C cda cc b)
    (t : PySem.W.typeIn K (.ref fI) = some (.type "function")) (p : PySem.W.findIn K (.ref C) fld = some none) : ErrK P K C b qual fld st := ⟨fI, cda, cc, oc, od, an, kV, doc, pm, ct, osl, l, c, s, i, t, p⟩
theorem oexG_mk {K : PySem.W.Frag} {C : Addr} {b : XB} {nm q : Str} {N : Addr} {bs bm : List Value} {sn : List Str} {sub : List Value} {ab : Bool} {col : Option Bool} {dd : Option Addr} {k0 k1 k2 k3 k5 : Option Value} (ok : b.Ok)
    (l : K.lookup C = some (excClassObj nm q C N bs bm true sn sub ab col dd k0 k1 k2 k3 k5 b.nw)) (m : downTo b.tl bm = true) (sa : PySem.W.findIn K (.ref C) "__setattr__" = some (some (.builtin "object.__setattr__")))
    (ex : PySem.W.subIn K (.ref C) (.type "BaseException") = some true) (ty : PySem.W.typeIn K (.ref C) = some (.type "type")) (kC : PySem.W.keepIn K (.ref C) = true) : OexG K C b :=
  ⟨ok, ⟨nm, q, N, bs, bm, sn, sub, ab, col, dd, k0, k1, k2, k3, k5, l, m⟩, sa, ex, ty, kC⟩
theorem supG_mk {P : Program} {K : PySem.W.Frag} {C cda cc : Addr} {b : XB} {ccl : Value} {cdd : Option Addr} {cvs : Array Value} {ccs : Array (Option Value)} {file : Str} {tf : Tok} {cl : Value} {cld : Option Addr} {csl : Array (Option Value)} (o : OexG K C b)
    (a : K.lookup cda = some ⟨ccl, cdd, .fields cvs, ccs⟩) (f2 : cvs[2]? = some (.str file tf)) (c : ((P.main.file : Str) == file) = true) (d : K.lookup cc = some ⟨cl, cld, .cell (some (.ref C)), csl⟩) (e : PySem.W.mroIn K C (.ref C) = some true)
    (f : PySem.W.nsIn K cStatics "thirdparty.any" = some none) (g : PySem.W.ks_superIn K C C "__init__" = some (some (.builtin b.ini))) (h : PySem.W.subIn K (.ref C) (.type b.B) = some true) (i : (P.main.scope.names.lookup ("super" : Str)).isSome = false) : SupG P K C cda cc b :=
  ⟨o, ⟨ccl, cdd, cvs, ccs, file, tf, a, f2, c⟩, ⟨cl, cld, csl, d⟩, e, f, g, h, i⟩
theorem errAt_of {P : Program} {K : PySem.W.Frag} {mg : Str → Option Value} {h : Heap} {C : Addr} {b : XB} {cn qual fld : Str} {st : Stmt} (X : K.In h) (G : h.Ns mainGlobals mg) (c : PySem.W.nsIn K mainGlobals cn = some (some (.ref C))) (e : ErrK P K C b qual fld st) : ∃ fI fd, ErrAt P K mg C fI fd b cn qual fld st := by
  obtain ⟨fI, cda, cc, oc, od, an, kV, doc, pm, ct, osl, l, cd, s, i, t, p⟩ := e
  exact ⟨fI, _, ⟨cda, cc, oc, od, an, kV, doc, pm, ct, osl, rfl, l, cd, s⟩, i, t, p, PySem.W.mg_of X G c⟩
end Cr
/-! o.m(k = v): a method called by keywords alone -/
/-! frames: pass_step -/
namespace Cr
open PySem PySem.Spec PyProof.Rows L2 Evl
/-- InvalidNumber, raised with words alone -/
structure NumC (K : PySem.W.Frag) (mg : Str → Option Value) (C : Addr) : Prop where
  at_ : mg "InvalidNumber" = some (.ref C)
  exc : PySem.W.excIn K C [.type "ValueError", .type "Exception", .type "BaseException", .type "object"] "ValueError.__new__" = true
  kp : PySem.W.keepIn K (.ref C) = true
  sub : PySem.W.subIn K (.ref C) (.type "BaseException") = some true
  ty : PySem.W.typeIn K (.ref C) = some (.type "type")
end Cr
/-! steps: their words and sizes (pure) -/
namespace Cr
open PySem PySem.Spec PyProof.Rows L2 Evl
theorem low_free {x : Str} (h : isNameS x = true) : x.length ≤ 8 ∧ 32 ∉ x.cps.toList := by
  unfold isNameS at h
  simp only [Bool.and_eq_true, decide_eq_true_eq] at h
  refine ⟨by omega, fun m => ?_⟩
  have z := List.all_eq_true.mp h.2 32 m
  exact absurd z (by decide)
theorem dts_map {H : Hp} {α : Type} (g : α → V) (f : α → PyData) (h : ∀ a, Dt H (g a) (f a)) : ∀ l : List α, DtAll H (l.map g) (l.map f)
  | [] => .nil
  | a :: l => .cons (h a) (dts_map g f h l)
theorem pss_dead' {X : Cx} {ss : List Stmt} : PSs X ss (fun _ _ _ => False) := ⟨fun _ _ _ _ _ _ h => h.elim⟩
end Cr
/-! the order of texts and of pairs of texts; sorted of data -/
namespace Cr
open PySem PySem.Spec PyProof.Rows L2 Evl
/-! ### texts -/
def leS (x y : Str) : Bool := decide (x.cps.toList ≤ y.cps.toList)
def ltS (x y : Str) : Prop := x.cps.toList < y.cps.toList
theorem leS_trans (x y z : Str) (h1 : leS x y = true) (h2 : leS y z = true) : leS x z = true := decide_eq_true (List.le_trans (of_decide_eq_true h1) (of_decide_eq_true h2))
theorem leS_total (x y : Str) : (leS x y || leS y x) = true := by
  rcases List.le_total (x.cps.toList) (y.cps.toList) with h | h
  · rw [show leS x y = true from decide_eq_true h, Bool.true_or]
  · rw [show leS y x = true from decide_eq_true h, Bool.or_true]
theorem leS_anti {x y : Str} (h1 : leS x y = true) (h2 : leS y x = true) : x = y := PySem.W.str_of_cps (List.le_antisymm (of_decide_eq_true h1) (of_decide_eq_true h2))
theorem ltS_irrefl (x : Str) : ¬ ltS x x := List.lt_irrefl _
theorem ltS_trans {x y z : Str} (h1 : ltS x y) (h2 : ltS y z) : ltS x z := List.lt_trans h1 h2
theorem ltS_leS {x y : Str} (h : ltS x y) : leS x y = true := decide_eq_true (List.le_of_lt h)
theorem leS_ltS {x y : Str} (h : leS x y = true) (n : x ≠ y) : ltS x y := by
  rcases List.le_iff_lt_or_eq.mp (of_decide_eq_true h) with z | z
  · exact z
  · exact absurd (PySem.W.str_of_cps z) n
/-- a list of texts, sorted -/
def srtS (xs : List Str) : List Str := xs.mergeSort leS
theorem srtS_perm (xs : List Str) : (srtS xs).Perm xs := List.mergeSort_perm _ _
theorem srtS_le (xs : List Str) : (srtS xs).Pairwise (fun x y => leS x y = true) := List.pairwise_mergeSort leS_trans leS_total xs
theorem srtS_lt {xs : List Str} (h : xs.Nodup) : (srtS xs).Pairwise ltS := by
  have nd : (srtS xs).Nodup := (srtS_perm xs).nodup_iff.mpr h
  have a := srtS_le xs
  rw [List.Nodup] at nd
  exact (a.and nd).imp fun ⟨h1, h2⟩ => leS_ltS h1 h2
/-- two lists that rise strictly and have the same items are the same -/
theorem rise_eq {α : Type} {lt : α → α → Prop} (ir : ∀ x, ¬ lt x x) (tr : ∀ {x y z}, lt x y → lt y z → lt x z) : ∀ {xs ys : List α}, xs.Pairwise lt → ys.Pairwise lt → (∀ a, a ∈ xs ↔ a ∈ ys) → xs = ys
  | [], [], _, _, _ => rfl
  | [], y :: ys, _, _, h => absurd ((h y).mpr List.mem_cons_self) (by simp)
  | x :: xs, [], _, _, h => absurd ((h x).mp List.mem_cons_self) (by simp)
  | x :: xs, y :: ys, h1, h2, h => by
    rw [List.pairwise_cons] at h1 h2
    have e : x = y := by
      rcases List.mem_cons.mp ((h x).mp List.mem_cons_self) with e | m
      · exact e
      · rcases List.mem_cons.mp ((h y).mpr List.mem_cons_self) with e | m2
        · exact e.symm
        · exact absurd (tr (h1.1 y m2) (h2.1 x m)) (ir x)
    subst e
    rw [rise_eq ir tr h1.2 h2.2 fun a => ?_]
    constructor
    · intro m
      rcases List.mem_cons.mp ((h a).mp (List.mem_cons_of_mem _ m)) with e | m2
      · subst e; exact absurd (h1.1 a m) (ir a)
      · exact m2
    · intro m
      rcases List.mem_cons.mp ((h a).mpr (List.mem_cons_of_mem _ m)) with e | m2
      · subst e; exact absurd (h2.1 a m) (ir a)
      · exact m2
theorem srt_uniq {xs ys : List Str} (p : ys.Perm xs) (s : ys.Pairwise (fun x y => leS x y = true)) : ys = srtS xs :=
  (p.trans (srtS_perm xs).symm).eq_of_pairwise (fun _ _ _ _ => leS_anti) s (srtS_le xs)
theorem sorted_le : ∀ {xs : List Str}, sortedS xs = true → xs.Pairwise (fun x y => leS x y = true) := by
  have lt_le : ∀ {x y : Str}, (!ltCps y.cps.toList x.cps.toList) = true → leS x y = true := fun {x y} h => by
    rw [Bool.not_eq_true'] at h
    refine decide_eq_true (List.not_lt.mp fun z => ?_)
    have : ltCps y.cps.toList x.cps.toList = true := by rw [ltCps_eq]; exact decide_eq_true z
    rw [h] at this
    cases this
  have go : ∀ (xs : List Str) (p : Str), risingS p xs = true → (∀ x ∈ xs, leS p x = true) ∧ xs.Pairwise (fun x y => leS x y = true) := by
    intro xs
    induction xs with
    | nil => intro p _; exact ⟨by simp, .nil⟩
    | cons x r ih =>
      intro p h
      rw [risingS, Bool.and_eq_true] at h
      obtain ⟨a, b⟩ := ih x h.2
      have px := lt_le h.1
      refine ⟨fun y hy => ?_, List.pairwise_cons.mpr ⟨a, b⟩⟩
      rcases List.mem_cons.mp hy with rfl | hy
      · exact px
      · exact leS_trans _ _ _ px (a y hy)
  intro xs h
  cases xs with
  | nil => exact .nil
  | cons x r => exact List.pairwise_cons.mpr (go r x h)
theorem sorted_is {xs ys : List Str} (p : ys.Perm xs) (s : sortedS ys = true) : ys = srtS xs := srt_uniq p (sorted_le s)
/-! ### pairs of texts -/
abbrev Pr := Str × Str
def pD (p : Pr) : PyData := .tuple [.str p.1, .str p.2]
def ltP2 (p q : Pr) : Prop := ltS p.1 q.1 ∨ (p.1 = q.1 ∧ ltS p.2 q.2)
theorem ltP2_irrefl (p : Pr) : ¬ ltP2 p p := by
  rintro (h | ⟨_, h⟩)
  · exact ltS_irrefl _ h
  · exact ltS_irrefl _ h
theorem ltP2_trans {p q r : Pr} (h1 : ltP2 p q) (h2 : ltP2 q r) : ltP2 p r := by
  rcases h1 with h1 | ⟨e1, h1⟩
  · rcases h2 with h2 | ⟨e2, h2⟩
    · exact .inl (ltS_trans h1 h2)
    · exact .inl (e2 ▸ h1)
  · rcases h2 with h2 | ⟨e2, h2⟩
    · exact .inl (e1 ▸ h2)
    · exact .inr ⟨e1.trans e2, ltS_trans h1 h2⟩
def leP (p q : Pr) : Bool := !PySem.W.dataLt (pD q) (pD p)
theorem lt_pD (p q : Pr) : PySem.W.dataLt (pD p) (pD q) = true ↔ ltP2 p q := by
  unfold pD
  rw [PySem.W.dataLt_pair rfl rfl]
  have e1 : PyData.eqv (.str p.1) (.str q.1) = decide (p.1 = q.1) := by rw [PyData.eqv]; rfl
  have e2 : PyData.eqv (.str p.2) (.str q.2) = decide (p.2 = q.2) := by rw [PyData.eqv]; rfl
  rw [e1, e2, PySem.W.dataLt_str, PySem.W.dataLt_str]
  unfold ltP2 ltS
  by_cases h1 : p.1 = q.1
  · rw [if_pos (decide_eq_true h1)]
    by_cases h2 : p.2 = q.2
    · rw [if_pos (decide_eq_true h2)]
      constructor
      · intro z; cases z
      · rintro (z | ⟨_, z⟩)
        · rw [h1] at z; exact absurd z (List.lt_irrefl _)
        · rw [h2] at z; exact absurd z (List.lt_irrefl _)
    · rw [if_neg (by simpa using h2), decide_eq_true_eq]
      constructor
      · exact fun z => .inr ⟨h1, z⟩
      · rintro (z | ⟨_, z⟩)
        · rw [h1] at z; exact absurd z (List.lt_irrefl _)
        · exact z
  · rw [if_neg (by simpa using h1), decide_eq_true_eq]
    constructor
    · exact fun z => .inl z
    · rintro (z | ⟨e, _⟩)
      · exact z
      · exact absurd e h1
theorem leP_iff {p q : Pr} : leP p q = true ↔ ¬ ltP2 q p := by
  unfold leP
  rw [Bool.not_eq_true', Bool.eq_false_iff, Ne, lt_pD]
theorem ltP2_tri (p q : Pr) : ltP2 p q ∨ p = q ∨ ltP2 q p := by
  have t : ∀ x y : Str, ltS x y ∨ x = y ∨ ltS y x := fun x y => by
    by_cases e : x = y
    · exact .inr (.inl e)
    · have := leS_total x y
      rw [Bool.or_eq_true] at this
      rcases this with h | h
      · exact .inl (leS_ltS h e)
      · exact .inr (.inr (leS_ltS h fun z => e z.symm))
  rcases t p.1 q.1 with h | h | h
  · exact .inl (.inl h)
  · rcases t p.2 q.2 with k | k | k
    · exact .inl (.inr ⟨h, k⟩)
    · exact .inr (.inl (Prod.ext h k))
    · exact .inr (.inr (.inr ⟨h.symm, k⟩))
  · exact .inr (.inr (.inl h))
theorem leP_total (p q : Pr) : (leP p q || leP q p) = true := by
  rw [Bool.or_eq_true, leP_iff, leP_iff]
  by_cases h : ltP2 q p
  · exact .inr fun z => ltP2_irrefl p (ltP2_trans z h)
  · exact .inl h
theorem leP_trans (p q r : Pr) (h1 : leP p q = true) (h2 : leP q r = true) : leP p r = true := by
  rw [leP_iff] at h1 h2 ⊢
  intro z
  rcases ltP2_tri p q with a | a | a
  · exact h2 (ltP2_trans z a)
  · subst a; exact h2 z
  · exact h1 a
/-- a list of pairs, sorted -/
def srtP (ps : List Pr) : List Pr := ps.mergeSort leP
theorem srtP_perm (ps : List Pr) : (srtP ps).Perm ps := List.mergeSort_perm _ _
theorem srtP_lt {ps : List Pr} (h : ps.Nodup) : (srtP ps).Pairwise ltP2 := by
  have nd : (srtP ps).Nodup := (srtP_perm ps).nodup_iff.mpr h
  have a : (srtP ps).Pairwise (fun x y => leP x y = true) := List.pairwise_mergeSort leP_trans leP_total ps
  rw [List.Nodup] at nd
  refine (a.and nd).imp fun {p q} ⟨h1, h2⟩ => ?_
  rcases ltP2_tri p q with z | z | z
  · exact z
  · exact absurd z h2
  · exact absurd z (leP_iff.mp h1)
theorem srtP_is {ps qs : List Pr} (h1 : qs.Pairwise ltP2) (h2 : ps.Nodup) (h : ∀ a, a ∈ qs ↔ a ∈ ps) : srtP ps = qs :=
  rise_eq ltP2_irrefl ltP2_trans (srtP_lt h2) h1 fun a => ((srtP_perm ps).mem_iff).trans (h a).symm
/-! ### sorted of data -/
end Cr
/-! libraries: what they are (pure) -/
/-! plain runs (pure): modules are initialized at their first need -/
namespace Cr
open PySem PySem.Spec PyProof.Rows L2 Evl
/-! ### lists of named things, as dicts keep them -/
def putA {α : Type} (l : List (Str × α)) (n : Str) (v : α) : List (Str × α) :=
  if (l.any fun r => decide (r.1 = n)) = true then l.map (fun r => if r.1 = n then (r.1, v) else r) else l ++ [(n, v)]
def getA {α : Type} (l : List (Str × α)) (n : Str) : Option α := (l.find? fun r => decide (r.1 = n)).map (·.2)
theorem putK_map {α : Type} (f : α → V) (l : List (Str × α)) (n : Str) (v : α) : putK (l.map fun r => ((.inr r.1 : Key), f r.2)) (.inr n) (f v) = (putA l n v).map fun r => ((.inr r.1 : Key), f r.2) := by
  have e : ((l.map fun r => ((.inr r.1 : Key), f r.2)).any fun kv => decide (kv.1 = (.inr n : Key))) = l.any fun r => decide (r.1 = n) := by
    rw [List.any_map]
    congr 1
    funext r
    exact decide_eq_decide.mpr ⟨fun h => Sum.inr.inj h, fun h => (by show (Sum.inr r.1 : Key) = _; rw [h])⟩
  unfold putK putA
  rw [e]
  split
  · rw [List.map_map, List.map_map]
    refine List.map_congr_left fun r _ => ?_
    show (if (Sum.inr r.1 : Key) = Sum.inr n then _ else _) = _
    by_cases h : r.1 = n
    · rw [if_pos (by show (Sum.inr r.1 : Key) = _; rw [h])]
      show _ = ((.inr (if r.1 = n then (r.1, v) else r).1 : Key), f (if r.1 = n then (r.1, v) else r).2)
      rw [if_pos h]
    · rw [if_neg (fun z => h (Sum.inr.inj z))]
      show _ = ((.inr (if r.1 = n then (r.1, v) else r).1 : Key), f (if r.1 = n then (r.1, v) else r).2)
      rw [if_neg h]
  · rw [List.map_append]
    rfl
theorem valV_mapA {α : Type} (f : α → V) (n : Str) : ∀ l : List (Str × α), valV (l.map fun r => ((.inr r.1 : Key), f r.2)) (.inr n) = (getA l n).map f
  | [] => rfl
  | r :: l => by
    unfold getA
    rw [List.map_cons, List.find?_cons]
    by_cases h : r.1 = n
    · rw [decide_eq_true h, valV_pos (by rw [h])]
      rfl
    · rw [decide_eq_false h, valV_neg (fun z => h (Sum.inr.inj z)), valV_mapA f n l]
      rfl
theorem getA_mem {α : Type} {l : List (Str × α)} {n : Str} {v : α} (h : getA l n = some v) : (n, v) ∈ l := by
  unfold getA at h
  obtain ⟨r, h1, h2⟩ := Option.map_eq_some_iff.mp h
  have z := List.find?_some h1
  have e : r.1 = n := of_decide_eq_true z
  have : r = (n, v) := Prod.ext e h2
  rw [← this]
  exact List.mem_of_find?_eq_some h1
theorem getA_key {α : Type} {l : List (Str × α)} {n : Str} : (getA l n).isSome = true ↔ n ∈ l.map (·.1) := by
  unfold getA
  rw [Option.isSome_map, List.find?_isSome, List.mem_map]
  exact ⟨fun ⟨r, hr, e⟩ => ⟨r, hr, of_decide_eq_true e⟩, fun ⟨r, hr, e⟩ => ⟨r, hr, decide_eq_true e⟩⟩
theorem getA_some {α : Type} {l : List (Str × α)} {n : Str} (h : n ∈ l.map (·.1)) : ∃ v, getA l n = some v := Option.isSome_iff_exists.mp (getA_key.mpr h)
theorem putA_keys {α : Type} (l : List (Str × α)) (n : Str) (v : α) : (putA l n v).map (·.1) = if n ∈ l.map (·.1) then l.map (·.1) else l.map (·.1) ++ [n] := by
  have e : (l.any fun r => decide (r.1 = n)) = decide (n ∈ l.map (·.1)) := by
    rw [Bool.eq_iff_iff, List.any_eq_true, decide_eq_true_eq, List.mem_map]
    exact ⟨fun ⟨r, hr, e⟩ => ⟨r, hr, of_decide_eq_true e⟩, fun ⟨r, hr, e⟩ => ⟨r, hr, decide_eq_true e⟩⟩
  unfold putA
  rw [e]
  by_cases h : n ∈ l.map (·.1)
  · rw [if_pos (decide_eq_true h), if_pos h, List.map_map]
    refine List.map_congr_left fun r _ => ?_
    show (if r.1 = n then (r.1, v) else r).1 = r.1
    split <;> rfl
  · rw [if_neg (by rw [decide_eq_false h]; decide), if_neg h, List.map_append]
    rfl
theorem putA_nodup {α : Type} {l : List (Str × α)} {n : Str} {v : α} (h : (l.map (·.1)).Nodup) : ((putA l n v).map (·.1)).Nodup := by
  rw [putA_keys]
  split
  · exact h
  · rename_i hn
    exact List.nodup_append.mpr ⟨h, by simp, fun a ha b hb e => hn (by rw [List.mem_singleton] at hb; rw [← hb, ← e]; exact ha)⟩
theorem putA_new {α : Type} {l : List (Str × α)} {n : Str} {v : α} (h : n ∉ l.map (·.1)) : putA l n v = l ++ [(n, v)] := by
  unfold putA
  rw [if_neg]
  rw [List.any_eq_true]
  rintro ⟨r, hr, e⟩
  exact h (List.mem_map.mpr ⟨r, hr, of_decide_eq_true e⟩)
theorem getA_put {α : Type} (l : List (Str × α)) (n : Str) (v : α) (k : Str) : getA (putA l n v) k = if k = n then some v else getA l k := by
  have gm : ∀ l : List (Str × α), (∃ r ∈ l, r.1 = n) → getA (l.map (fun r => if r.1 = n then (r.1, v) else r)) k = if k = n then some v else getA l k := by
    intro l
    induction l with
    | nil => rintro ⟨r, hr, _⟩; exact nomatch hr
    | cons r l ih =>
      intro hex
      unfold getA at ih ⊢
      rw [List.map_cons, List.find?_cons, List.find?_cons]
      by_cases h : r.1 = n
      · rw [if_pos h]
        by_cases hk : k = n
        · rw [decide_eq_true (by rw [h, hk]), if_pos hk]; rfl
        · rw [decide_eq_false (by rw [h]; exact fun e => hk e.symm), if_neg hk]
          by_cases h2 : ∃ y ∈ l, y.1 = n
          · have z := ih h2
            rw [if_neg hk] at z
            exact z
          · have e : (l.map fun r => if r.1 = n then (r.1, v) else r) = l := by
              refine (List.map_congr_left (g := id) fun y hy => ?_).trans (List.map_id _)
              rw [if_neg fun e => h2 ⟨y, hy, e⟩]
              rfl
            rw [e]
      · rw [if_neg h]
        by_cases hrk : r.1 = k
        · have hk : ¬ k = n := fun e => h (hrk.trans e)
          rw [decide_eq_true hrk, if_neg hk]
        · rw [decide_eq_false hrk]
          obtain ⟨y, hy, e⟩ := hex
          rcases List.mem_cons.mp hy with rfl | hy
          · exact absurd e h
          · exact ih ⟨y, hy, e⟩
  unfold putA
  split
  · rename_i h
    obtain ⟨r, hr, e⟩ := List.any_eq_true.mp h
    exact gm l ⟨r, hr, of_decide_eq_true e⟩
  · rename_i h
    have hn : ∀ r ∈ l, ¬ r.1 = n := fun r hr e => h (List.any_eq_true.mpr ⟨r, hr, decide_eq_true e⟩)
    unfold getA
    rw [List.find?_append]
    by_cases hk : k = n
    · rw [if_pos hk]
      have : l.find? (fun r => decide (r.1 = k)) = none := List.find?_eq_none.mpr fun r hr => by rw [decide_eq_true_eq, hk]; exact hn r hr
      rw [this, Option.none_or, List.find?_cons, decide_eq_true hk.symm]
      rfl
    · rw [if_neg hk, List.find?_cons, decide_eq_false (fun e => hk e.symm)]
      show ((l.find? _).or none).map _ = _
      rw [Option.or_none]
/-! ### the scene -/
abbrev Ints := List (Str × Int)
structure Sc where
  op : List Str
  rs : List (Str × Bool)
  ex : List (Str × Ints)
/-! ### what a step does -/
/-! ### the scene grows -/
def keysA {α : Type} (l : List (Str × α)) : List Str := l.map (·.1)
structure Gr (s s' : Sc) : Prop where
  op : s'.op = s.op
  rs : ∀ k ∈ keysA s.rs, k ∈ keysA s'.rs
  ex : ∀ k ∈ keysA s.ex, k ∈ keysA s'.ex
theorem Gr.refl (s : Sc) : Gr s s := ⟨rfl, fun _ h => h, fun _ h => h⟩
theorem Gr.trans {a b c : Sc} (x : Gr a b) (y : Gr b c) : Gr a c := ⟨y.op.trans x.op, fun k h => y.rs k (x.rs k h), fun k h => y.ex k (x.ex k h)⟩
end Cr
/-! the law's own: texts, names, numbers, steps -/
namespace Cr
open PySem PySem.Spec PyProof.Rows L2 Evl
/-! ### texts of letters -/
theorem join_cps : ∀ ws : List Str, (Txt.join ("" : Str) ws).cps.toList = ws.flatMap fun w => w.cps.toList := by
  have e0 : (("" : Str)).cps.toList = [] := by decide +kernel
  have h : ∀ ws : List Str, (Str.join ("" : Str) ws).cps.toList = ws.flatMap fun w => w.cps.toList := by
    intro ws
    induction ws with
    | nil => rfl
    | cons x r ih =>
      cases r with
      | nil => simp [Str.join]
      | cons y r =>
        rw [show Str.join ("" : Str) (x :: y :: r) = x ++ "" ++ Str.join "" (y :: r) from rfl, Str.cps_append, Str.cps_append, Array.toList_append, Array.toList_append, ih, e0, List.append_nil]
        simp
  intro ws
  rw [TL.join_eq]
  exact h ws
theorem len_toList (x : Str) : x.cps.toList.length = x.length := by simp [Str.length]
theorem name_of {x : Str} {cs : List Nat} (e : x.cps.toList = cs) (h1 : 1 ≤ cs.length) (h2 : cs.length ≤ 8) (h : ∀ c ∈ cs, isLow c = true) : isNameS x = true := by
  have l := len_toList x
  rw [e] at l
  unfold isNameS
  rw [e, decide_eq_true (show (1 : Int) ≤ x.length by omega), decide_eq_true (show (x.length : Int) ≤ 8 by omega), List.all_eq_true.mpr h]
  rfl
def isOne (w : Str) : Prop := ∃ c, w = ⟨#[c]⟩ ∧ isLow c = true
theorem join_ones : ∀ {ws : List Str}, (∀ w ∈ ws, isOne w) → ∃ cs : List Nat, (ws.flatMap fun w => w.cps.toList) = cs ∧ cs.length = ws.length ∧ ∀ c ∈ cs, isLow c = true
  | [], _ => ⟨[], rfl, rfl, by simp⟩
  | w :: r, h => by
    obtain ⟨c, rfl, hc⟩ := h w (List.mem_cons_self ..)
    obtain ⟨cs, e, l, ha⟩ := join_ones fun w hw => h w (List.mem_cons_of_mem _ hw)
    refine ⟨c :: cs, ?_, by simp [l], ?_⟩
    · rw [List.flatMap_cons, e]; rfl
    · intro d hd
      rcases List.mem_cons.mp hd with rfl | hd
      · exact hc
      · exact ha d hd
abbrev abc : Str := "abcdefghijklmnopqrstuvwxyz"
theorem abc_get (i : Nat) (h : i < 26) : abc.cps.toList[i]? = some (97 + i) := by
  have : ∀ i < 26, abc.cps.toList[i]? = some (97 + i) := by decide +kernel
  exact this i h
theorem low_of {i : Nat} (h : i < 26) : isLow (97 + i) = true := by
  unfold isLow
  rw [decide_eq_true (show 97 ≤ 97 + i by omega), decide_eq_true (show 97 + i ≤ 122 by omega)]; rfl
/-- pigeons -/
theorem pigeon : ∀ {ws us : List Str}, ws.Nodup → (∀ w ∈ ws, w ∈ us) → ws.length ≤ us.length
  | [], _, _, _ => Nat.zero_le _
  | w :: ws, us, nd, h => by
    have hw := h w (List.mem_cons_self ..)
    rw [List.nodup_cons] at nd
    have ih := pigeon (us := us.erase w) nd.2 fun x hx => (List.mem_erase_of_ne (fun e : x = w => nd.1 (by rw [← e]; exact hx))).mpr (h x (List.mem_cons_of_mem _ hx))
    rw [List.length_erase_of_mem hw] at ih
    have : 0 < us.length := List.length_pos_of_mem hw
    rw [List.length_cons]
    omega
def spare (i : Nat) : Str := ⟨#[97 + i / 26, 97 + i % 26, 113]⟩
theorem spare_name (i : Nat) (h : i < 676) : isNameS (spare i) = true := by
  refine name_of (x := spare i) (cs := [97 + i / 26, 97 + i % 26, 113]) rfl (by simp) (by simp) fun c hc => ?_
  simp only [List.mem_cons, List.not_mem_nil, or_false] at hc
  rcases hc with rfl | rfl | rfl
  · exact low_of (by omega)
  · exact low_of (by omega)
  · rfl
theorem inV_mem {z : Str} {us : List Str} : inV (.str z) (us.map V.str) = true ↔ z ∈ us := by
  rw [inV_strs, List.any_eq_true]
  constructor
  · rintro ⟨x, hx, e⟩
    rw [beq_iff_eq] at e
    exact e ▸ hx
  · intro h
    exact ⟨z, h, beq_self_eq_true z⟩
theorem Drew.mut {p D : Addr} {H H' : Hp} {o : HO} (d : Drew p H H') (hD : H D = none) (n : D ≠ p) : Drew p H (upd H' D o) := by
  refine ⟨fun a u h => ?_, ?_⟩
  · have hn := (wo_some h).1
    have hD' : a ≠ D := ne_of_none (wo_some h).2 hD
    have q := d.ex a u h
    rw [wo_ne hn] at q ⊢
    rw [upd_ne hD']
    exact q
  · obtain ⟨x, y, z, r⟩ := d.pot
    exact ⟨x, y, by rw [upd_ne n.symm]; exact z, r⟩
theorem Drew.neq {p q : Addr} {H H' : Hp} (d : Drew p H H') (h : H' q = none) : q ≠ p := fun e => by
  obtain ⟨x, y, z, _⟩ := d.pot
  rw [← e, h] at z
  cases z
theorem Drew.new {p q : Addr} {H H' : Hp} {o : HO} (d : Drew p H H') (h : H' q = none) : Drew p H (upd H' q o) := d.trans (Drew.of d.pot (Ex.new h))
theorem Drew.tps {p : Addr} {H H' : Hp} (d : Drew p H H') (hp : Pot H p) : Tps H H' := fun a xs h => d.at (fun e => by
  obtain ⟨x, y, z, _⟩ := hp
  rw [e, z] at h
  cases h) h
end Cr
/-! words of the law: _law_word, _law_words, as fourteen laws draw them -/
namespace Cr
open PySem PySem.Spec PyProof.Rows L2 Evl
abbrev sWord1 : Stmt := topS 26
abbrev sWords1 : Stmt := topS 27
abbrev nWord1 : List Str := ["_law_pot_here", "_law_used", "_law_letters", "_law_size", "_law_word_here", "_law_spare", "_law_turn", "_law_at", "_law_one"]
abbrev nWords1 : List Str := ["_law_pot_here", "_law_number", "_law_found", "_law_turn"]
theorem scWord1 : FnScope nWord1 ["_law_pot_here", "_law_used"] (defScope sWord1) := ⟨rfl, rfl, rfl, by decide +kernel, rfl, by decide +kernel, by decide +kernel⟩
theorem scWords1 : FnScope nWords1 ["_law_pot_here", "_law_number"] (defScope sWords1) := ⟨rfl, rfl, rfl, by decide +kernel, rfl, by decide +kernel, by decide +kernel⟩
theorem spare_inj {i j : Nat} (h : spare i = spare j) : i = j := by
  have e : (spare i).cps.toList = (spare j).cps.toList := by rw [h]
  have e' : [97 + i / 26, 97 + i % 26, 113] = [97 + j / 26, 97 + j % 26, 113] := e
  injection e' with e1 e2
  injection e2 with e2 _
  omega
theorem spare_nd2 (n : Nat) : ((List.range n).map spare).Nodup := List.Pairwise.map spare (fun _ _ h z => h (spare_inj z)) List.nodup_range
theorem spare_free2 {us : List Str} (h : us.length ≤ 600) : ∃ i, i < 676 ∧ spare i ∉ us := by
  refine Classical.byContradiction fun n => ?_
  have all : ∀ w ∈ (List.range 676).map spare, w ∈ us := fun w hw => by
    obtain ⟨i, hi, rfl⟩ := List.mem_map.mp hw
    exact Classical.byContradiction fun z => n ⟨i, List.mem_range.mp hi, z⟩
  have := pigeon (spare_nd2 676) all
  rw [List.length_map, List.length_range] at this
  omega
def spWord : Sp := fun vs H Q _ => ∃ (p u : Addr) (us : List Str), vs = [.ref p, .ref u] ∧ Pot H p ∧ u ≠ p ∧ H u = some (.lst (us.map V.str)) ∧ us.length ≤ 600 ∧ ∀ x H', isNameS x = true → x ∉ us → Drew p H H' → Q (.str x) H'
def spWords : Sp := fun vs H Q _ => ∃ (p : Addr) (n : Nat), vs = [.ref p, .int (n : Int)] ∧ Pot H p ∧ n ≤ 600 ∧
  ∀ (l : Addr) (xs : List Str) (H' : Hp), H l = none → H' l = some (.lst (xs.map V.str)) → xs.length = n → xs.Nodup → (∀ x ∈ xs, isNameS x = true) → Drew p H H' → Q (.ref l) H'
abbrev ten : List Str := ["module", "need", "try", "fail", "act", "thread", "retry", "unload", "ready", "a"]
theorem ten_name : ∀ x ∈ ten, isNameS x = true := by decide +kernel
theorem ten_get (j : Nat) (h : j < 10) : ∃ x, (ten.map V.str)[j]? = some (.str x) ∧ isNameS x = true := by
  have hl : j < ten.length := h
  exact ⟨ten[j], by rw [List.getElem?_map, List.getElem?_eq_getElem hl]; rfl, ten_name _ (List.getElem_mem hl)⟩
section
variable {P : Program} {w : World} {K : PySem.W.Frag} {mg : Str → Option Value} {base : Heap}
theorem ok_word1 {f : Addr} {fd : FuncData} {k : Nat} (F : Fun K "_law_word" "_law_word" sWord1 f fd) (B : Blt mg) (D : Has P w K mg base k "_law_draw" ["_law_pot_here", "_law_bound"] spDraw) :
    FnG P w K mg base CX0 (k + 1) f fd ["_law_pot_here", "_law_used"] spWord := by
  obtain ⟨fD, fdD, GD, bD, kD, gD⟩ := D.ex
  refine okG F scWord1 (fun vs H Q E h => by obtain ⟨_, _, _, rfl, _⟩ := h; rfl) (fun cdv A outer s H vs Q E hq hr h => ?_)
  obtain ⟨p, u, us, rfl, pot, un, hu, hl, q⟩ := h
  refine ⟨_, pss_cons (ps_set (i := 2) scWord1.nd rfl (.inr rfl) pe_str)
    (pss_cons (ps_set (i := 3) scWord1.nd rfl (.inl rfl) (pe_ix ix_list (pe_lst (pa_cons pe_int (pa_cons pe_int (pa_cons pe_int (pa_cons pe_int (pa_cons (pe_op op_add pe_int (callG GD hq hr (by rfl) gD kD bD .nil pass0 (pa_cons (pv 0) (pa_cons pe_int pa_nil)))) pa_nil)))))) (callG GD hq hr (by rfl) gD kD bD .nil pass0 (pa_cons (pv 0) (pa_cons pe_int pa_nil))) (fun _ _ => rfl)))
    (pss_cons (ps_set (i := 4) scWord1.nd rfl (.inl rfl) (pe_join pe_str (pe_lc (own := [("_law_turn", 6)]) (g := gName 6) (tt := tYes) rfl scWord1.nd (pi_range1 (by rfl) B.range (pa_cons (pv 3) pa_nil)) (blkOk_by (own := [("_law_turn", 6)]) (N := nWord1) (sc := defScope sWord1) (by decide +kernel))
        (fun _ _ _ _ _ => pg_name (i := 6) scWord1.nd rfl (Or.inl rfl)) (fun _ _ _ _ _ => pts_nil) (fun _ _ _ _ _ => pe_ix ix_str (pv 2) (callG GD hq hr (by rfl) gD kD bD .nil pass0 (pa_cons (pv 0) (pa_cons pe_int pa_nil))) (fun _ _ => rfl)))))
    (pss_cut (ps_if (pt_cmpR op_eq (callG GD hq hr (by rfl) gD kD bD .nil pass0 (pa_cons (pv 0) (pa_cons pe_int pa_nil))) pe_int (nomark _))
      (pss_one (ps_set (i := 4) scWord1.nd rfl (.inl rfl) (pe_ix ix_list (pe_lst (pa_cons pe_str (pa_cons pe_str (pa_cons pe_str (pa_cons pe_str (pa_cons pe_str (pa_cons pe_str (pa_cons pe_str (pa_cons pe_str (pa_cons pe_str (pa_cons pe_str pa_nil))))))))))) (callG GD hq hr (by rfl) gD kD bD .nil pass0 (pa_cons (pv 0) (pa_cons pe_int pa_nil))) (fun _ _ => rfl)))) pss_nil)
    (pss_cons (ps_if (pt_cmpR op_in_seq (pv 4) (pv 1) (by rfl))
      (pss_cons (ps_setLc (i := 5) (own := [("_law_at", 7)]) (g := gName 7) (tt := tYes) rfl scWord1.nd rfl rfl (sw_true rfl rfl rfl (by decide +kernel)) (pi_range1 (by rfl) B.range (pa_cons pe_int pa_nil)) (blkOk_by (own := [("_law_at", 7)]) (N := nWord1) (sc := defScope sWord1) (by decide +kernel))
        (fun _ _ _ _ _ => pg_name (i := 7) scWord1.nd rfl (Or.inl rfl)) (fun _ _ _ _ _ => pts_nil)
        (fun _ _ _ _ _ => pe_op op_add_str (pe_op op_add_str (pe_ix ix_str (pv 2) (pe_op op_fdiv (pv 7) pe_int) (fun _ _ => rfl)) (pe_ix ix_str (pv 2) (pe_op op_mod (pv 7) pe_int) (fun _ _ => rfl))) pe_str))
      (pss_one (ps_ret (pe_ix ix_list (pe_lc (own := [("_law_one", 8)]) (g := gName 8) (tt := tTest (tOp (rIn K true) (tVar 8) (tVar 1))) rfl scWord1.nd (pi_list (pv 5)) (blkOk_by (own := [("_law_one", 8)]) (N := nWord1) (sc := defScope sWord1) (by decide +kernel))
        (fun _ _ _ _ _ => pg_name (i := 8) scWord1.nd rfl (Or.inl rfl)) (fun _ _ _ _ _ => by exact pts_one (pt_cmpR op_notIn_seq (pv 8) (pv 1) (by rfl))) (fun _ _ _ _ _ => pv 8)) pe_int (fun _ _ => rfl))))) pss_nil)
    (pss_one (ps_ret (pv 4))))))), ?_⟩
  refine q_asg ev_c fun H0 e0 => ?_
  have r0 : Drew p H H0 := Drew.of pot e0
  refine q_asgAny ⟨.ref p, rfl, p, 8, rfl, by decide, by decide +kernel, r0.pot, fun c1 H1 a1 b1 r1 => ⟨1, c1, rfl, rfl, by show 5 ≤ sizeLine; decide, fun o ho => ?_⟩⟩
  have r01 := r0.trans r1
  have on : o ≠ p := r01.neq ho
  have r1' : Drew p H (upd H1 o (.lst [.int 1, .int 1, .int 2, .int 8, .int (1 + c1)])) := r01.new ho
  refine ⟨.ref p, rfl, p, 5, rfl, by decide, by decide +kernel, r1'.pot, fun d2 H2 a2 b2 r2 => ?_⟩
  obtain ⟨sz, hsz, s1, s8⟩ : ∃ sz : Nat, atI [V.int 1, V.int 1, V.int 2, V.int 8, V.int (1 + c1)] d2 = some (.int (sz : Int)) ∧ 1 ≤ sz ∧ sz ≤ 8 := by
    obtain ⟨j, rfl⟩ := Int.eq_ofNat_of_zero_le a2
    have hj : j = 0 ∨ j = 1 ∨ j = 2 ∨ j = 3 ∨ j = 4 := by omega
    rcases hj with rfl | rfl | rfl | rfl | rfl
    · exact ⟨1, atI_nat rfl, by omega, by omega⟩
    · exact ⟨1, atI_nat rfl, by omega, by omega⟩
    · exact ⟨2, atI_nat rfl, by omega, by omega⟩
    · exact ⟨8, atI_nat rfl, by omega, by omega⟩
    · refine ⟨(1 + c1).toNat, atI_nat (v := V.int (1 + c1)) rfl |>.trans ?_, by omega, by omega⟩
      congr 2; omega
  have r12 := r1'.trans r2
  refine ⟨o, _, d2, .int sz, rfl, rfl, sq_of (r2.at on upd_same), hsz, ?_⟩
  refine q_asgAny ⟨⟨"", rfl⟩, .int (sz : Int), rfl, sz, rfl, by omega, by omega, fun Dl hD => ?_⟩
  have Dn : Dl ≠ p := r12.neq hD
  have HD : H Dl = none := fresh_drew r12 pot hD
  refine lc_range (lo := 0) (n := (sz : Int).toNat) (fun i H3 => ∃ ws : List Str, H3 Dl = some (.lst (ws.map V.str)) ∧ ws.length = i ∧ (∀ w ∈ ws, isOne w) ∧ Drew p H H3)
    ⟨[], upd_same, rfl, by simp, r12.mut HD Dn⟩ (fun i H3 hi hP => ?_) (fun H3 hP => ?_)
  · obtain ⟨ws, hw, hlw, hone, dr⟩ := hP
    refine ⟨rfl, .str abc, rfl, .ref p, rfl, p, 26, rfl, by decide, by decide +kernel, dr.pot, fun d H4 da db dr4 => ?_⟩
    obtain ⟨j, rfl⟩ := Int.eq_ofNat_of_zero_le da
    have hj : j < 26 := by omega
    refine ⟨abc, (j : Int), 97 + j, rfl, rfl, by decide +kernel, atI_nat (abc_get j hj), ws.map V.str, dr4.at Dn hw, sz_lt (by rw [List.length_map]; omega), ws ++ [⟨#[97 + j]⟩], ?_, by simp [hlw], ?_, (dr.trans dr4).mut HD Dn⟩
    · rw [upd_same, List.map_append]; rfl
    · intro w hw'
      rcases List.mem_append.mp hw' with z | z
      · exact hone w z
      · rw [List.mem_singleton.mp z]
        exact ⟨97 + j, rfl, low_of hj⟩
  obtain ⟨ws, hw, hlw, hone, dr⟩ := hP
  obtain ⟨cs, ecs, lcs, hcs⟩ := join_ones hone
  have nm : isNameS (Txt.join "" ws) = true := name_of ((join_cps ws).trans ecs) (by omega) (by omega) hcs
  have lone : ∀ {ws : List Str}, (∀ w ∈ ws, isOne w) → (ws.map (·.length)).sum = ws.length := by
    intro ws
    induction ws with
    | nil => intro _; rfl
    | cons x r ih =>
      intro h
      obtain ⟨c, rfl, _⟩ := h _ (List.mem_cons_self ..)
      rw [List.map_cons, List.sum_cons, ih fun w hw => h w (List.mem_cons_of_mem _ hw), List.length_cons]
      show 1 + r.length = r.length + 1
      omega
  refine ⟨"", Dl, ws, rfl, rfl, .inl (sq_of hw), ?_, ?_⟩
  · have e0 : (("" : Str)).length = 0 := by decide +kernel
    rw [lone hone, e0]
    omega
  generalize hx : Txt.join ("" : Str) ws = x at nm
  refine q_cut (M := fun σ H' => ∃ x : Str, σ = [some (.ref p), some (.ref u), some (.str abc), some (.int (sz : Int)), some (.str x), none, none, none, none] ∧ isNameS x = true ∧ Drew p H H') ?_ ?_
  · refine ⟨.ref p, rfl, p, 12, rfl, by decide, by decide +kernel, dr.pot, fun c H5 c0 c12 r5 => ⟨rfl, _, rfl, ?_⟩⟩
    have r05 := dr.trans r5
    by_cases hc : V.int c = V.int 0
    · rw [decide_eq_true hc]
      refine ⟨by show 10 ≤ sizeLine; decide, fun o2 ho2 => ?_⟩
      have r06 : Drew p H (upd H5 o2 (.lst (ten.map V.str))) := r05.new ho2
      refine ⟨.ref p, rfl, p, 10, rfl, by decide, by decide +kernel, r06.pot, fun d H6 d0 d10 r6 => ?_⟩
      obtain ⟨j, rfl⟩ := Int.eq_ofNat_of_zero_le d0
      obtain ⟨y, hy, ny⟩ := ten_get j (by omega)
      exact ⟨o2, _, (j : Int), .str y, rfl, rfl, sq_of (r6.at (r05.neq ho2) upd_same), atI_nat hy, y, rfl, ny, r06.trans r6⟩
    · rw [decide_eq_false hc]
      exact ⟨x, rfl, nm, r05⟩
  rintro σ H4 ⟨x, rfl, nm, dr⟩
  have hu4 := dr.at un hu
  refine q_when (σ := [some (.ref p), some (.ref u), some (.str abc), some (.int (sz : Int)), some (.str x), none, none, none, none]) (et_test (ev_op (ev_var rfl) (ev_var rfl) (rv_isL (sq_of hu4) rfl (flat_strs _)))) (fun hb H5 e5 => ?_) (fun hb H5 e5 => s_ret (ev_var rfl) fun H6 e6 => q x H6 nm (fun z => by rw [inV_mem.mpr z] at hb; cases hb) (dr.trans (Drew.of dr.pot (e5.trans e6))))
  -- the spare ones
  have lc1 := el_lcW (wi := iRng1 (tCons (tC (.int 676)) tNil)) (g := gName 7) (tt := tYes) (te := tOp _ (tOp _ (tOp rIxS (tVar 2) (tOp (rI CDiv fun i j => .int (i / j)) (tVar 7) (tC (.int 26)))) (tOp rIxS (tVar 2) (tOp (rI (fun _ j => 0 < j) fun i j => .int (i % j)) (tVar 7) (tC (.int 26))))) (tC (.str "q"))) (vs := [7])
    (σ := [some (.ref p), some (.ref u), some (.str abc), some (.int (sz : Int)), some (.str x), none, none, none, none]) (H := H5) (n := 676) (Y := YFn fun i => .int (0 + i)) (fun _ => true) (fun i => .str (spare i)) (by decide)
    (fun H6 e6 R r => ⟨676, rfl, by decide, by decide, r H6 _ _ walk_range (fun _ _ _ z => z) (Ex.refl H6) trivial⟩)
    (fun i y H6 H7 e6 hi hy => by
      obtain ⟨rfl, rfl⟩ := hy
      refine ⟨Ex.refl _, [some (.ref p), some (.ref u), some (.str abc), some (.int (sz : Int)), some (.str x), none, none, some (.int (0 + i)), none], rfl, fun R r => r, fun H8 _ Q q => q H8 (Ex.refl H8), fun _ => ?_⟩
      have e0 : (0 : Int) + (i : Int) = (i : Int) := Int.zero_add _
      rw [e0]
      have ed : ((i : Int) / 26) = ((i / 26 : Nat) : Int) := by omega
      have em : ((i : Int) % 26) = ((i % 26 : Nat) : Int) := by omega
      have i1 : i / 26 < 26 := by omega
      have i2 : i % 26 < 26 := by omega
      refine ev_op (r := fun x y H Q => ∃ i j, x = .str i ∧ y = .str j ∧ i.length + j.length ≤ sizeLine ∧ Q (.str (i ++ j)) H) (x := .str (⟨#[97 + i / 26]⟩ ++ ⟨#[97 + i % 26]⟩))
        (ev_op (r := fun x y H Q => ∃ i j, x = .str i ∧ y = .str j ∧ i.length + j.length ≤ sizeLine ∧ Q (.str (i ++ j)) H)
          (ev_op (ev_var rfl) (ev_op (ev_var rfl) ev_c (rv_I ⟨by decide, by decide⟩)) (rv_ixS (by decide +kernel) (by rw [ed]; exact atI_nat (abc_get _ i1))))
          (ev_op (ev_var rfl) (ev_op (ev_var rfl) ev_c (rv_I (C := fun _ j => 0 < j) (by decide))) (rv_ixS (by decide +kernel) (by rw [em]; exact atI_nat (abc_get _ i2))))
          (rv_val fun H8 _ Q q => ⟨_, _, rfl, rfl, by show 2 ≤ sizeLine; decide, q⟩)) ev_c (rv_val fun H8 _ Q q => ⟨_, _, rfl, rfl, by show 3 ≤ sizeLine; decide, q⟩))
  have eg1 : given 676 (fun _ => true) (fun i => V.str (spare i)) = ((List.range 676).map spare).map V.str := by
    rw [given_all, List.map_map]; rfl
  rw [eg1] at lc1
  refine q_asgL lc1 fun L H6 hL e6 h6 => ?_
  have hu6 := e6 _ _ (e5 _ _ hu4)
  have lc2 := el_lcW (wi := iList K (tVar 5)) (g := gName 8) (tt := tTest (tOp (rIn K true) (tVar 8) (tVar 1))) (te := tVar 8) (vs := [8])
    (σ := [some (.ref p), some (.ref u), some (.str abc), some (.int (sz : Int)), some (.str x), some (.ref L), none, none, none]) (H := H6) (n := 676) (Y := YAt (((List.range 676).map spare).map V.str)) (fun i => !inV (.str (spare i)) (us.map V.str)) (fun i => .str (spare i)) (by decide)
    (fun H7 e7 R r => ⟨.ref L, rfl, L, rfl, ⟨_, sq_of (e7 _ _ h6)⟩, r H7 _ _ (by have z := walk_list (K := K) (a := L) (xs := ((List.range 676).map spare).map V.str); rw [List.length_map, List.length_map, List.length_range] at z; exact z) (fun _ _ e z => ex_l e z) (Ex.refl H7) (sq_of (e7 _ _ h6))⟩)
    (fun i y H7 H8 e7 hi hy => by
      obtain ⟨rfl, hy⟩ := hy
      have ey : y = .str (spare i) := by
        rw [List.getElem?_map, List.getElem?_map, List.getElem?_range hi] at hy
        exact (Option.some.inj hy).symm
      subst ey
      exact ⟨Ex.refl _, [some (.ref p), some (.ref u), some (.str abc), some (.int (sz : Int)), some (.str x), some (.ref L), none, none, some (.str (spare i))], rfl, fun R r => r, et_test (ev_op (ev_var rfl) (ev_var rfl) (rv_niL (sq_of (e7 _ _ hu6)) rfl (flat_strs _))), fun _ => ev_var rfl⟩)
  obtain ⟨i0, hi0, fi0⟩ := spare_free2 hl
  have mem : V.str (spare i0) ∈ given 676 (fun i => !inV (.str (spare i)) (us.map V.str)) (fun i => .str (spare i)) := by
    unfold given
    refine List.mem_map.mpr ⟨i0, List.mem_filter.mpr ⟨List.mem_range.mpr (by omega), ?_⟩, rfl⟩
    rw [Bool.not_eq_true']
    exact Bool.eq_false_iff.mpr fun z => fi0 (inV_mem.mp z)
  cases eg : given 676 (fun i => !inV (.str (spare i)) (us.map V.str)) (fun i => V.str (spare i)) with
  | nil => rw [eg] at mem; cases mem
  | cons y r =>
    have hy : y ∈ given 676 (fun i => !inV (.str (spare i)) (us.map V.str)) (fun i => V.str (spare i)) := by rw [eg]; exact List.mem_cons_self ..
    unfold given at hy
    obtain ⟨i1, h1, rfl⟩ := List.mem_map.mp hy
    have hi1 : i1 < 676 := List.mem_range.mp (List.mem_filter.mp h1).1
    rw [eg] at lc2
    refine s_ret (ev_opL1 lc2 (fun _ _ => ev_c) fun p2 H7 hp2 _ => rv_ixL (sq_of hp2) (atI_nat (j := 0) rfl)) fun H7 e7 => ?_
    have ni : spare i1 ∉ us := fun z => by
      have y := (List.mem_filter.mp h1).2
      rw [inV_mem.mpr z] at y
      cases y
    exact q _ H7 (spare_name i1 (by omega)) ni (dr.trans (Drew.of dr.pot ((e5.trans e6).trans e7)))
theorem ok_words1 {f : Addr} {fd : FuncData} {k : Nat} (F : Fun K "_law_words" "_law_words" sWords1 f fd) (B : Blt mg) (N : Has P w K mg base k "_law_word" ["_law_pot_here", "_law_used"] spWord) :
    FnG P w K mg base CX0 (k + 1) f fd ["_law_pot_here", "_law_number"] spWords := by
  obtain ⟨fN, fdN, GN, bN, kN, gN⟩ := N.ex
  refine okG F scWords1 (fun vs H Q E h => by obtain ⟨_, _, rfl, _⟩ := h; rfl) (fun cdv A outer s H vs Q E hq hr h => ?_)
  obtain ⟨p, n, rfl, pot, hn, q⟩ := h
  refine ⟨_, pss_cons (ps_set (i := 2) scWords1.nd rfl (.inl rfl) (pe_lst pa_nil))
    (pss_cons (ps_for PassesOwn.never rfl (pi_range1 (by rfl) B.range (pa_cons (pv 1) pa_nil)) (pg_name (i := 3) scWords1.nd rfl (.inl rfl))
      (pss_one (ps_expr (pe_bm PySem.F.plainAttrs_list PySem.F.slot_list_append PySem.F.type_list_append mt_append (pv 2) (pa_cons (callG GN hq hr (by rfl) gN kN bN .nil pass0 (pa_cons (pv 0) (pa_cons (pv 2) pa_nil))) pa_nil)))))
    (pss_one (ps_ret (pv 2)))), ?_⟩
  refine ⟨Nat.zero_le _, fun l hl => ?_⟩
  have d0 : Drew p H (upd H l (.lst [])) := Drew.of pot (Ex.new hl)
  have ln : l ≠ p := (Drew.refl pot).neq hl
  refine ⟨.int n, rfl, n, rfl, by omega, by omega, for_range (lo := 0) (n := (n : Int).toNat) (fun i σ H' => ∃ y3 xs, σ = [some (.ref p), some (.int n), some (.ref l), y3] ∧ H' l = some (.lst ((xs : List Str).map V.str)) ∧ xs.length = i ∧ xs.Nodup ∧ (∀ x ∈ xs, isNameS x = true) ∧ Drew p H H')
    ⟨none, [], rfl, upd_same, rfl, List.Pairwise.nil, by simp, d0⟩ (fun i σ H1 hi hP => ?_) (fun σ H1 hP => ?_)⟩
  · obtain ⟨y3, xs, rfl, h1, lx, nd, hx, dr⟩ := hP
    refine ⟨.ref l, rfl, .inl ⟨rfl, _, sq_of h1⟩, .ref p, rfl, .ref l, rfl, p, l, xs, rfl, dr.pot, ln, h1, by omega, fun x H2 nx fx dr2 => ?_⟩
    refine ⟨l, _, .str x, rfl, rfl, dr2.at ln h1, sz_lt (by rw [List.length_map]; omega), _, xs ++ [x], rfl, ?_, by simp [lx], List.nodup_append.mpr ⟨nd, List.pairwise_singleton _ _, fun a ha b hb e => fx (by rw [List.mem_singleton.mp hb] at e; exact e ▸ ha)⟩, ?_, (dr.trans dr2).mut hl ln⟩
    · rw [upd_same, List.map_append]; rfl
    · intro y hy
      rcases List.mem_append.mp hy with z | z
      · exact hx y z
      · rw [List.mem_singleton.mp z]; exact nx
  · obtain ⟨y3, xs, rfl, h1, lx, nd, hx, dr⟩ := hP
    exact ⟨.ref l, rfl, q l xs H1 hl h1 (by omega) nd hx dr⟩
end
end Cr
/-! errors: copied -/
namespace Cr
open PySem PySem.Spec PyProof.Rows L2 Evl
abbrev sCopied : Stmt := topS 2
abbrev nCopied : List Str := ["value", "item", "key"]
theorem scCopied : FnScope nCopied ["value"] (defScope sCopied) := ⟨rfl, rfl, rfl, by decide +kernel, rfl, by decide +kernel, by decide +kernel⟩
/-! ### what is new -/
def dif (H H' : Hp) : Hp := fun a => match H a with | none => H' a | some _ => none
theorem dif_at {H H' : Hp} {a : Addr} {o : HO} (h : H a = none) (h' : H' a = some o) : dif H H' a = some o := by unfold dif; rw [h]; exact h'
theorem dif_get {H H' : Hp} {a : Addr} {o : HO} (h : dif H H' a = some o) : H a = none ∧ H' a = some o := by
  unfold dif at h
  cases e : H a with
  | none => rw [e] at h; exact ⟨rfl, h⟩
  | some u => rw [e] at h; cases h
/-! ### what can be copied -/
def flatD : PyData → Bool
  | .none | .bool _ | .int _ | .str _ => true
  | _ => false
def kdis : List (PyData × PyData) → Bool
  | [] => true
  | e :: r => r.all (fun p => !PyData.eqv e.1 p.1) && kdis r
theorem kdis_nodup {H : Hp} : ∀ {kvs : List (Key × V)} {es : List (PyData × PyData)}, DtKv H kvs es → kdis es = true → (kvs.map (·.1)).Nodup
  | _, _, .nil, _ => List.nodup_nil
  | _, _, .cons (k := k) (kvs := kvs) (es := es) h t, z => by
    rw [kdis, Bool.and_eq_true] at z
    rw [List.map_cons]
    refine List.nodup_cons.mpr ⟨fun m => ?_, kdis_nodup t z.2⟩
    have mem : ∀ {kvs : List (Key × V)} {es : List (PyData × PyData)}, DtKv H kvs es → k ∈ kvs.map (·.1) → ∃ p ∈ es, p.1 = kD k := by
      intro kvs es h
      induction kvs generalizing es with
      | nil => intro m; exact nomatch m
      | cons kv kvs ih =>
        intro m
        cases h with
        | cons h1 h2 =>
          rcases List.mem_cons.mp m with e | e
          · exact ⟨_, List.mem_cons_self, congrArg kD e.symm⟩
          · obtain ⟨p, hp, he⟩ := ih h2 e
            exact ⟨p, List.mem_cons_of_mem _ hp, he⟩
    obtain ⟨p, hp, he⟩ := mem t m
    have y := List.all_eq_true.mp z.1 p hp
    rw [he] at y
    cases k with
    | inl i => simp [kD, PyData.eqv] at y
    | inr x => simp [kD, PyData.eqv] at y
mutual
def cpy : PyData → Bool
  | .none | .bool _ | .int _ | .str _ => true
  | .list xs | .tuple xs => decide (xs.length ≤ 1000) && cpyAll xs
  | .dict es => decide (es.length ≤ 1000) && es.all (fun p => flatD p.2) && kdis es
def cpyAll : List PyData → Bool
  | [] => true
  | x :: xs => cpy x && cpyAll xs
end
mutual
def dpt : PyData → Nat
  | .none | .bool _ | .int _ | .str _ => 0
  | .list xs | .tuple xs => dptAll xs + 1
  | .dict _ => 1
def dptAll : List PyData → Nat
  | [] => 0
  | x :: xs => max (dpt x) (dptAll xs)
end
theorem cpyAll_get : ∀ {ds : List PyData} {i : Nat} {d : PyData}, cpyAll ds = true → ds[i]? = some d → cpy d = true
  | x :: xs, 0, d, h, e => by
    simp at e; subst e
    rw [cpyAll, Bool.and_eq_true] at h
    exact h.1
  | x :: xs, i + 1, d, h, e => by
    rw [cpyAll, Bool.and_eq_true] at h
    exact cpyAll_get (i := i) h.2 (by simpa using e)
theorem dptAll_get : ∀ {ds : List PyData} {i : Nat} {d : PyData}, ds[i]? = some d → dpt d ≤ dptAll ds
  | x :: xs, 0, d, e => by
    simp at e; subst e
    rw [dptAll]
    exact Nat.le_max_left _ _
  | x :: xs, i + 1, d, e => by
    have := dptAll_get (i := i) (ds := xs) (by simpa using e)
    rw [dptAll]
    exact Nat.le_trans this (Nat.le_max_right _ _)
theorem flat_any {H H' : Hp} {v : V} {d : PyData} (h : Dt H v d) (f : flatD d = true) : Dt H' v d := by
  cases h with
  | non => exact .non
  | bl b => exact .bl b
  | int i => exact .int i
  | str x => exact .str x
  | _ => exact nomatch f
theorem flat_eq {H H' : Hp} {v v' : V} {d : PyData} (h : Dt H v d) (h' : Dt H' v' d) (f : flatD d = true) : v' = v := by
  cases h with
  | non => cases h'; rfl
  | bl b => cases h'; rfl
  | int i => cases h'; rfl
  | str x => cases h'; rfl
  | _ => exact nomatch f
theorem flatKv {H H' : Hp} : ∀ {kvs : List (Key × V)} {es : List (PyData × PyData)}, DtKv H kvs es → es.all (fun p => flatD p.2) = true → DtKv H' kvs es
  | _, _, .nil, _ => .nil
  | _, _, .cons h t, f => by
    rw [List.all_cons, Bool.and_eq_true] at f
    exact .cons (flat_any h f.1) (flatKv t f.2)
theorem kv_get {H : Hp} : ∀ {kvs : List (Key × V)} {es : List (PyData × PyData)} {i : Nat} {k : Key} {v : V}, DtKv H kvs es → kvs[i]? = some (k, v) → ∃ e, es[i]? = some e ∧ Dt H v e.2
  | _, _, 0, _, _, .cons h _, e => by
    simp at e
    obtain ⟨rfl, rfl⟩ := e
    exact ⟨_, rfl, h⟩
  | _, _, i + 1, _, _, .cons _ t, e => by
    obtain ⟨x, h1, h2⟩ := kv_get (i := i) t (by simpa using e)
    exact ⟨x, by simpa using h1, h2⟩
theorem valV_at {k : Key} {v : V} : ∀ {kvs : List (Key × V)} {i : Nat}, (kvs.map (·.1)).Nodup → kvs[i]? = some (k, v) → valV kvs k = some v ∧ valV (kvs.take i) k = none
  | kv :: r, 0, nd, e => by
    simp at e
    subst e
    exact ⟨valV_pos rfl, rfl⟩
  | kv :: r, i + 1, nd, e => by
    rw [List.map_cons] at nd
    obtain ⟨n1, n2⟩ := List.nodup_cons.mp nd
    have e' : r[i]? = some (k, v) := by simpa using e
    obtain ⟨h1, h2⟩ := valV_at n2 e'
    have ne : ¬ kv.1 = k := fun z => n1 (by rw [z]; exact List.mem_map.mpr ⟨(k, v), List.mem_of_getElem? e', rfl⟩)
    exact ⟨(valV_neg ne).trans h1, by rw [List.take_succ_cons, valV_neg ne]; exact h2⟩
def spCopied : Nat → Sp
  | 0 => fun _ _ _ _ => False
  | n + 1 => fun vs H Q _ => ∃ (v : V) (d : PyData), vs = [v] ∧ Dt H v d ∧ cpy d = true ∧ dpt d ≤ n ∧ ∀ v' H', Ex H H' → Dt (dif H H') v' d → Q v' H'
/-! ### a list of copies -/
structure Cop (H H' : Hp) (D : Addr) (ys : List V) (ds : List PyData) : Prop where
  ex : Ex H H'
  hD : H' D = some (.lst ys)
  dt : DtAll (dif (upd H D (.lst [])) H') ys ds
theorem Cop.add {H H' H2 : Hp} {D : Addr} {ys : List V} {ds : List PyData} {v : V} {d : PyData} (c : Cop H H' D ys ds) (zD : H D = none) (e2 : Ex H' H2) (hv : Dt (dif H' H2) v d) : Cop H (upd H2 D (.lst (ys ++ [v]))) D (ys ++ [v]) (ds ++ [d]) := by
  refine ⟨Ex.mut (c.ex.trans e2) zD, upd_same, ?_⟩
  have n0 : ∀ {a : Addr}, upd H D (.lst []) a = none → a ≠ D := fun h e => by rw [e, upd_same] at h; cases h
  have old : Ex (dif (upd H D (.lst [])) H') (dif (upd H D (.lst [])) (upd H2 D (.lst (ys ++ [v])))) := fun a o h => by
    obtain ⟨h1, h2⟩ := dif_get h
    exact dif_at h1 (by rw [upd_ne (n0 h1)]; exact e2 _ _ h2)
  have new : Ex (dif H' H2) (dif (upd H D (.lst [])) (upd H2 D (.lst (ys ++ [v])))) := fun a o h => by
    obtain ⟨h1, h2⟩ := dif_get h
    have aD : a ≠ D := fun e => by rw [e, c.hD] at h1; cases h1
    refine dif_at ?_ (by rw [upd_ne aD]; exact h2)
    rw [upd_ne aD]
    exact fresh_back c.ex h1
  exact DtAll.append (DtAll.ex old c.dt) (.cons (Dt.ex new hv) .nil)
theorem Cop.all {H H' : Hp} {D : Addr} {ys : List V} {ds : List PyData} (c : Cop H H' D ys ds) (zD : H D = none) : DtAll (dif H H') ys ds := by
  refine DtAll.ex (fun a o h => ?_) c.dt
  obtain ⟨h1, h2⟩ := dif_get h
  refine dif_at ?_ h2
  by_cases e : a = D
  · rw [e]; exact zD
  · rw [upd_ne e] at h1; exact h1
section
variable {P : Program} {w : World} {K : PySem.W.Frag} {mg : Str → Option Value} {base : Heap}
theorem ok_copied {f : Addr} {fd : FuncData} {n : Nat} (F : Fun K "copied" "copied" sCopied f fd) (B : Blt mg) (h0 : HasO P w K mg base n "copied" ["value"] (spCopied n)) : FnOk P w K mg base CX0 (n + 1) f fd ["value"] (spCopied (n + 1)) := by
  obtain ⟨fC, dC, GC, bC, kC, gC⟩ := h0.ex
  refine F.ok scCopied (fun vs H Q E h => by obtain ⟨_, _, rfl, _⟩ := h; rfl) (fun cdv A outer s H vs Q E hr h => ?_)
  obtain ⟨v, d, rfl, hd, hc, hn, q⟩ := h
  have hu := hu_of hr
  refine ⟨_, pss_cons (ps_if (pt_val (pe_callB call_isi (by rfl) B.isi bIsi (pa_cons (pv 0) (pa_cons (pe_bltn (v := .ty "list") (by rfl) B.list bList rfl) pa_nil)))) (pss_one (ps_ret
      (pe_lc (own := [("item", 1)]) (g := gName 1) (tt := tYes) rfl scCopied.nd (pi_list (pv 0)) (blkOk_by (own := [("item", 1)]) (N := nCopied) (sc := defScope sCopied) (by decide +kernel))
        (fun _ _ _ _ _ => pg_name (i := 1) scCopied.nd rfl (Or.inl rfl)) (fun _ _ _ _ _ => pts_nil) (fun _ _ _ _ _ => pe_call GC hr (by rfl) gC kC bC .nil pass0 (pa_cons (pv 1) pa_nil))))) pss_nil)
    (pss_cons (ps_if (pt_val (pe_callB call_isi (by rfl) B.isi bIsi (pa_cons (pv 0) (pa_cons (pe_bltn (v := .ty "tuple") (by rfl) B.tuple bTuple rfl) pa_nil)))) (pss_one (ps_ret (pe_callTy call_tuple_of (by rfl) B.tuple bTuple (pa_cons
      (pe_lc (own := [("item", 1)]) (g := gName 1) (tt := tYes) rfl scCopied.nd (pi_tup (pv 0)) (blkOk_by (own := [("item", 1)]) (N := nCopied) (sc := defScope sCopied) (by decide +kernel))
        (fun _ _ _ _ _ => pg_name (i := 1) scCopied.nd rfl (Or.inl rfl)) (fun _ _ _ _ _ => pts_nil) (fun _ _ _ _ _ => pe_call GC hr (by rfl) gC kC bC .nil pass0 (pa_cons (pv 1) pa_nil))) pa_nil)))) pss_nil)
    (pss_cons (ps_if (pt_val (pe_callB call_isi (by rfl) B.isi bIsi (pa_cons (pv 0) (pa_cons (pe_bltn (v := .ty "dict") (by rfl) B.dict bDict rfl) pa_nil)))) (pss_one (ps_ret (pe_lock
      (pe_dc (own := [("key", 2)]) (g := gName 2) (tt := tYes) (tk := tVar 2) (tv := tCall (spCopied n) [] E0 (tCons (tDGet (tVar 0) (tVar 2)) tNil)) rfl scCopied.nd (pi_keys (pv 0)) (blkOk_by (own := [("key", 2)]) (N := nCopied) (sc := defScope sCopied) (by decide +kernel))
        (fun _ _ _ _ _ => pg_name (i := 2) scCopied.nd rfl (Or.inl rfl)) (fun _ _ _ _ _ => pts_nil) (fun _ _ _ _ _ => pv 2) (fun _ _ _ _ _ => by exact pe_call GC hr (by rfl) gC kC bC .nil pass0 (pa_cons (pe_dget hu (pv 0) (pv 2) (fun _ _ => rfl)) pa_nil)))))) pss_nil)
    (pss_one (ps_ret (pv 0))))), ?_⟩
  have isv : ∀ {T : String} {H' : Hp}, T ∈ ["int", "bool", "str", "list", "tuple", "dict"] → Ex H H' → Ev (tCB (rIsi K) (tCons (tVar 0) (tCons (tC (.ty T)) tNil))) (L2.start nCopied [v]) H' (.bl (isT T d)) := fun hT e => ev_cb (ea_cons (ev_var rfl) (ea_cons ev_c ea_nil)) (rc_isi (Dt.ex e hd) hT)
  have cop0 : ∀ {D : Addr}, H D = none → Cop H (upd H D (.lst [])) D [] [] := fun zD => ⟨Ex.new zD, upd_same, .nil⟩
  have dep : ∀ {ds : List PyData} {i : Nat} {e : PyData}, cpyAll ds = true → dptAll ds + 1 ≤ n → ds[i]? = some e → ∀ {H' : Hp} {x : V} {Q' : VK}, Dt H' x e → (∀ v' H2, Ex H' H2 → Dt (dif H' H2) v' e → Q' v' H2) → spCopied n [x] H' Q' E0 := fun {ds i e} hca hdp he {H' x Q'} hx k => by
    cases n with
    | zero => omega
    | succ m =>
      have := dptAll_get he
      exact ⟨x, e, rfl, hx, cpyAll_get hca he, by omega, k⟩
  cases hd with
  | @lst a xs ds ha hxs =>
    rw [cpy, Bool.and_eq_true] at hc
    have hl : ds.length ≤ 1000 := of_decide_eq_true hc.1
    have lx := hxs.length
    rw [dpt] at hn
    refine q_when (b := true) (et_is (et_B (isv (by decide) (Ex.refl H))) rfl) (fun _ H1 e1 => ?_) (fun z => nomatch z)
    refine ⟨.ref a, rfl, a, rfl, ⟨_, sq_of (e1 _ _ ha)⟩, fun D zD => ?_⟩
    have zD0 := fresh_back e1 zD
    refine lc_list (fun i H' => ∃ ys, Cop H1 H' D ys (ds.take i)) ⟨[], Ex.new zD, upd_same, .nil⟩ (fun i H' _ h => by obtain ⟨ys, c⟩ := h; exact sq_of (c.ex _ _ (e1 _ _ ha))) (fun i x H' hx h => ?_) (fun H' h => ?_)
    · obtain ⟨ys, c⟩ := h
      obtain ⟨e, he, hxe⟩ := hxs.get hx
      have hi : i < ds.length := (List.getElem?_eq_some_iff.mp he).1
      have ly := c.dt.length
      rw [List.length_take] at ly
      refine ⟨rfl, x, rfl, ?_⟩
      dsimp only [tNil]
      refine dep hc.2 hn he (Dt.ex (e1.trans c.ex) hxe) fun v' H2 e2 hv' => ⟨ys, e2 _ _ c.hD, sz_lt (by omega), ys ++ [v'], ?_⟩
      have tk : ds.take (i + 1) = ds.take i ++ [e] := by
        rw [List.take_succ, he]
        rfl
      rw [tk]
      exact c.add zD e2 hv'
    · obtain ⟨ys, c⟩ := h
      rw [lx, List.take_length] at c
      refine q (.ref D) H' (e1.trans c.ex) (.lst (dif_at zD0 c.hD) (DtAll.ex (fun a o z => ?_) (c.all zD)))
      obtain ⟨z1, z2⟩ := dif_get z
      exact dif_at (fresh_back e1 z1) z2
  | @tup a xs ds ha hxs =>
    rw [cpy, Bool.and_eq_true] at hc
    have hl : ds.length ≤ 1000 := of_decide_eq_true hc.1
    have lx := hxs.length
    rw [dpt] at hn
    have hT : ∀ {H' : Hp}, Ex H H' → Dt H' (.ref a) (.tuple ds) := fun e => Dt.ex e (.tup ha hxs)
    refine q_when (b := false) (et_is (et_B (isv (by decide) (Ex.refl H))) rfl) (fun z => nomatch z) (fun _ H0 e0 => ?_)
    refine q_when (b := true) (et_is (et_B (isv (by decide) e0)) rfl) (fun _ H1 e01 => ?_) (fun z => nomatch z)
    have e1 := e0.trans e01
    refine ⟨.ref a, rfl, a, rfl, ⟨_, st_of (e1 _ _ ha)⟩, fun D zD => ?_⟩
    have zD0 := fresh_back e1 zD
    refine lc_tup (fun i H' => ∃ ys, Cop H1 H' D ys (ds.take i)) ⟨[], Ex.new zD, upd_same, .nil⟩ (fun i H' _ h => by obtain ⟨ys, c⟩ := h; exact st_of (c.ex _ _ (e1 _ _ ha))) (fun i x H' hx h => ?_) (fun H' h => ?_)
    · obtain ⟨ys, c⟩ := h
      obtain ⟨e, he, hxe⟩ := hxs.get hx
      have hi : i < ds.length := (List.getElem?_eq_some_iff.mp he).1
      have ly := c.dt.length
      rw [List.length_take] at ly
      refine ⟨rfl, x, rfl, ?_⟩
      dsimp only [tNil]
      refine dep hc.2 hn he (Dt.ex (e1.trans c.ex) hxe) fun v' H2 e2 hv' => ⟨ys, e2 _ _ c.hD, sz_lt (by omega), ys ++ [v'], ?_⟩
      have tk : ds.take (i + 1) = ds.take i ++ [e] := by
        rw [List.take_succ, he]
        rfl
      rw [tk]
      exact c.add zD e2 hv'
    · obtain ⟨ys, c⟩ := h
      rw [lx, List.take_length] at c
      refine ⟨D, ys, rfl, .inl ⟨sq_of c.hD, fun t zt => ?_⟩⟩
      have et := Ex.new (o := .tup ys) zt
      refine q (.ref t) _ ((e1.trans c.ex).trans et) (.tup (dif_at (fresh_back (e1.trans c.ex) zt) upd_same) (DtAll.ex (fun a o z => ?_) (c.all zD)))
      obtain ⟨z1, z2⟩ := dif_get z
      exact dif_at (fresh_back e1 z1) (et _ _ z2)
  | @dct a kvs es ha hkv =>
    rw [cpy, Bool.and_eq_true, Bool.and_eq_true] at hc
    have hl : es.length ≤ 1000 := of_decide_eq_true hc.1.1
    have lx := hkv.len
    have nd := kdis_nodup hkv hc.2
    rw [dpt] at hn
    refine q_when (b := false) (et_is (et_B (isv (by decide) (Ex.refl H))) rfl) (fun z => nomatch z) (fun _ H0 e0 => ?_)
    refine q_when (b := false) (et_is (et_B (isv (by decide) e0)) rfl) (fun z => nomatch z) (fun _ H01 e01 => ?_)
    refine q_when (b := true) (et_is (et_B (isv (by decide) (e0.trans e01))) rfl) (fun _ H1 e02 => ?_) (fun z => nomatch z)
    have e1 := (e0.trans e01).trans e02
    refine ⟨a, .dK kvs, e1 _ _ ha, trivial, fun od => ⟨.ref a, rfl, a, od, rfl, .inl ⟨kvs, upd_same, fun D zD => ?_⟩⟩⟩
    have Da : D ≠ a := fun e => by rw [e, upd_same] at zD; cases zD
    have zD1 : H1 D = none := by rw [upd_ne Da] at zD; exact zD
    have wk := walk_keys (d := a) (o := od) (kvs := kvs)
    refine ⟨fun i m H' => m = kvs.length - i ∧ i ≤ kvs.length ∧ H' a = some (.frz od (.dK kvs)) ∧ (∀ c o, c ≠ a → H1 c = some o → H' c = some o) ∧ H' D = some (.dK (kvs.take i)), ⟨kvs.length, rfl, Nat.zero_le _, by rw [upd_ne Da.symm, upd_same], fun c o nc h => by rw [upd_ne (ne_of_none h zD1), upd_ne nc]; exact h, upd_same⟩, ?_⟩
    rintro i m H' ⟨rfl, hi, ha', old, hD⟩
    by_cases hlt : i < kvs.length
    · refine .inr ⟨wk.goes i H' hlt ha', fun H2 => H2 a = some (.frz od (.dK kvs)) ∧ (∀ c o, c ≠ a → H1 c = some o → H2 c = some o) ∧ H2 D = some (.dK (kvs.take (i + 1))), fun H2 z => ⟨kvs.length - (i + 1), by omega, rfl, hlt, z.1, z.2.1, z.2.2⟩, fun x H2 y => ?_⟩
      obtain ⟨rfl, k, v, hk, rfl⟩ := wk.yields i H' x H2 hlt ha' y
      obtain ⟨g1, g2⟩ := valV_at nd hk
      obtain ⟨e, he, hve⟩ := kv_get hkv hk
      have fe : flatD e.2 = true := List.all_eq_true.mp hc.1.2 e (List.mem_of_getElem? he)
      refine ⟨rfl, kV k, rfl, .ref a, rfl, kV k, rfl, a, v, rfl, .inl ⟨kvs, k, .inr ⟨od, ha'⟩, rfl, g1.symm⟩, ?_⟩
      dsimp only [tNil]
      obtain ⟨n', rfl⟩ : ∃ n', n = n' + 1 := ⟨n - 1, by omega⟩
      refine ⟨v, e.2, rfl, flat_any hve fe, ?_, ?_, fun v' H3 e3 hv' => ?_⟩
      · cases hq : e.2 <;> rw [hq] at fe <;> first | rfl | exact nomatch fe
      · cases hq : e.2 <;> rw [hq] at fe <;> first | exact Nat.zero_le _ | exact nomatch fe
      · have ev := flat_eq hve hv' fe
        subst ev
        have hz : H2 a = some (.frz od (.dK kvs)) := ha'
        refine ⟨_, k, rfl, e3 _ _ hD, sz_lt (by rw [List.length_take]; omega), ?_, fun c o nc h => ?_, ?_⟩
        · rw [upd_ne Da.symm]; exact e3 _ _ hz
        · rw [upd_ne (ne_of_none h zD1)]; exact e3 _ _ (old c o nc h)
        · rw [upd_same, L2.putK_new _ g2, List.take_succ, hk]; rfl
    · have ei : i = kvs.length := by omega
      subst ei
      rw [List.take_length] at hD
      refine .inl ⟨wk.stops H' ha', ha', ?_⟩
      refine q (.ref D) _ (fun c o h => ?_) (.dct (dif_at (fresh_back e1 zD1) (by rw [upd_ne Da]; exact hD)) (flatKv hkv hc.1.2))
      by_cases ec : c = a
      · rw [ec, upd_same]
        rw [ec, ha] at h
        exact h
      · rw [upd_ne ec]
        exact old c o ec (e1 _ _ h)
  | _ =>
    refine q_when (b := false) (et_is (et_B (isv (by decide) (Ex.refl H))) rfl) (fun z => nomatch z) (fun _ H1 e1 => ?_)
    refine q_when (b := false) (et_is (et_B (isv (by decide) e1)) rfl) (fun z => nomatch z) (fun _ H2 e2 => ?_)
    refine q_when (b := false) (et_is (et_B (isv (by decide) (e1.trans e2))) rfl) (fun z => nomatch z) (fun _ H3 e3 => ?_)
    refine ⟨_, rfl, q _ H3 ((e1.trans e2).trans e3) (by constructor)⟩
/-- at every depth -/
theorem copied_all {h : Heap} (X : K.In h) (G : h.Ns mainGlobals mg) (D : DefAt K "copied" sCopied) (B : Blt mg) : ∀ n : Nat, HasO P w K mg base n "copied" ["value"] (spCopied n)
  | 0 => hasO_mk X G D (fun _ _ _ _ _ _ us hl => match us, hl with | [_], _ => rfl) fun f fd F => ⟨fun _ _ _ _ z => z.elim, fun _ _ _ _ _ _ _ _ _ _ _ _ _ z => z.elim⟩
  | n + 1 => hasO_mk X G D (fun _ _ _ _ _ _ us hl => match us, hl with | [_], _ => rfl) fun f fd F => ok_copied F B (copied_all X G D B n)
end
end Cr
/-! own errors as values: made, asked, read -/
/-! super().__init__(..) first, then statements that call (Room is told) -/
namespace Cr
open PySem PySem.Spec PyProof.Rows L2 Evl
section
variable {P : Program} {w : World} {K : PySem.W.Frag} {mg : Str → Option Value} {base : Heap}
theorem okSupGR {name qual : Str} {params : Arguments} {scope : Scope} {dV kV doc pm ct oc : Value} {an od : Option Addr} {osl : Array (Option Value)} {f C cda cc : Addr} {b : XB} {N ps : List Str} {k : Nat} {sp : Sp}
    {p0 p1 p2 p3 p4 : Pos} {e : Expr} {es : List Expr} {rest : List Stmt} {ar : Arg}
    (lk : K.lookup f = some ⟨oc, od, .func (PySem.W.ksFn name qual params (.Expr (.Call (.Attribute (.Call (.Name "super" p0) [] [] p1) "__init__" p2) (e :: es) [] p3) p4 :: rest) scope dV kV doc pm an (.ref cda) ct cc), osl⟩)
    (hcd : PySem.W.codeIn K (.ref cda) qual = true) (S : SupScope N ps scope) (T : SupG P K C cda cc b) (hsup : mg "super" = none)
    (hp0 : (params.posonlyargs ++ params.args).head? = some ar) (hself : N[0]? = some ar.arg) (hps : ar.arg ∈ ps)
    (len : ∀ vs H Q E, sp vs H Q E → vs.length = ps.length)
    (hbody : ∀ (A : Around) (outer : List Env) (s : Shared) (H : Hp) (vs : List V) (Q : VK) (E : XK), Room k (A.deeper (PySem.W.ksEnv qual scope s.heap.objs.size f (.ref cda) cc)) → sp vs H Q E →
      ∃ (a : Addr) (ta : TA) (t : TS), (L2.start N vs)[0]? = some (some (.ref a)) ∧ H a = some (exo a C none) ∧ PA (cxSup P w K mg base N qual scope f cda cc A outer s H) (e :: es) ta ∧
        PSs (cxSup P w K mg base N qual scope f cda cc A outer s H) rest t ∧
        ta (L2.start N vs) H fun ws H1 => ws.length ≤ 1000 ∧ H1 a = some (exo a C none) ∧ t { nx := fun _ H' => Q .non H', rt := Q } (L2.start N vs) H1)
    {pl : Addr → Sem Bool}
    (hc : ∀ L : Addr, eval (.Call (.Attribute (.Call (.Name "super" p0) [] [] p1) "__init__" p2) (e :: es) [] p3) (PySem.W.ksEnv qual scope L f (.ref cda) cc) = (do
      let ov ← attributeBase (.Call (.Name "super" p0) [] [] p1) "__init__" (PySem.W.ksEnv qual scope L f (.ref cda) cc) (eval (.Call (.Name "super" p0) [] [] p1) (PySem.W.ksEnv qual scope L f (.ref cda) cc))
      standAt p2.atName
      let (fx, first) ← holding [ov] (getMethod ov "__init__" (pl L))
      callWith p3 fx first (backTo p3 (starEach (e :: es) (PySem.W.ksEnv qual scope L f (.ref cda) cc))) []) := by intro _; rfl)
    (hint : ∀ L : Addr, interactive (PySem.W.ksEnv qual scope L f (.ref cda) cc) = false := by intro _; rfl)
    (hsw : ∀ L : Addr, swapsWith (.Call (.Attribute (.Call (.Name "super" p0) [] [] p1) "__init__" p2) (e :: es) [] p3) none p4.line (PySem.W.ksEnv qual scope L f (.ref cda) cc) = pure false := by intro _; rfl)
    (he : ∀ L : Addr, starEach (e :: es) (PySem.W.ksEnv qual scope L f (.ref cda) cc) = (false, eval e (PySem.W.ksEnv qual scope L f (.ref cda) cc)) :: starEach es (PySem.W.ksEnv qual scope L f (.ref cda) cc) := by intro _; rfl)
    (hpl : ∀ L : Addr, (backTo p3 (starEach es (PySem.W.ksEnv qual scope L f (.ref cda) cc))).any (·.1) = false := by intro _; rfl) :
    FnOk P w K mg base CX0 (k + 1) f (PySem.W.ksFn name qual params (.Expr (.Call (.Attribute (.Call (.Name "super" p0) [] [] p1) "__init__" p2) (e :: es) [] p3) p4 :: rest) scope dV kV doc pm an (.ref cda) ct cc) ps sp := by
  refine ⟨len, fun A outer s H args us vs Q E hr e0 hb r hsp => ?_⟩
  have keepB : ∀ b o, base.get? b = some o → s.heap.get? b = some o := fun b o e => (e0.bs b o e).1
  obtain ⟨cl, cld, csl, hcell⟩ := T.cell
  obtain ⟨ccl, cdd, cvs, ccs, file, tf, hcode, hvs, hfile⟩ := T.code
  refine ks_codeAny_call_defAt (fd := PySem.W.ksFn name qual params _ scope dV kV doc pm an (.ref cda) ct cc) (binds := ps.zip us) hr.depth ((e0.mod.kin.keeps keepB) _ _ lk) rfl (e0.mod.nolimit.keeps keepB) (PySem.W.codeRec_of (e0.mod.kin.keeps keepB) hcd) rfl hb S.nocell
    (fun x hx => S.par x.1 (List.of_mem_zip (show (x.1, x.2) ∈ ps.zip us from hx)).1) (fun h₁ hns hk => ?_) S.co S.gen S.kind
  obtain ⟨a, ta, t, hs0, hea, hta, ht, hT⟩ := hbody A outer s H vs Q E (hr.deeper _) hsp
  have I : Inv (cxSup P w K mg base N qual scope f cda cc A outer s H) [] (L2.start N vs) H { s with heap := h₁, toks := s.toks + (ps.zip us).length } := inv_sup S hr.hd e0 (len _ _ _ _ hsp) r hcell hns hk
  have kIn := I.kIn
  obtain ⟨m, hn, hlk⟩ := I.loc
  obtain ⟨u0, hu0, hl0⟩ := hlk 0 ar.arg (.ref a) hself hs0 (.inl (S.par _ hps))
  obtain rfl : u0 = Value.ref a := hu0
  have hma : m ar.arg = some (.ref a) := by
    rcases hl0 with ⟨_, z⟩ | ⟨z, _⟩
    · exact z
    · have k1 : scope.names.lookup ar.arg = some .local := S.par _ hps
      rcases z with z | z
      · have z' : scope.names.lookup ar.arg = some .cell := z
        rw [k1] at z'; cases z'
      · have z' : scope.names.lookup ar.arg = some .free := z
        rw [k1] at z'; cases z'
  obtain ⟨t1, ho⟩ := exo_at I.hok hea
  obtain ⟨nm, q, N', bs, bm, sn, sub, ab, col, dd, k0, k1, k2, k3, k5, hC, hbm⟩ := T.oex.cls
  have hcl : PySem.W.clsIn K C = some { name := nm, bases := bs, mro := .ref C :: bm, ns := N', qualname := q, hasDict := true, slotNames := sn, subclasses := sub, abstract := ab, collection := col, hasDel := false } := by unfold PySem.W.clsIn; rw [hC] <;> rfl
  obtain ⟨mb, hmb, hbb⟩ := I.mod.blt
  have J : PySem.W.InstAt h₁ a { cls := .ref C, dict := none, data := .fields #[.ref t1, .none, .none, .none, .bool false, .none] } C none := ⟨ho, rfl, rfl, trivial⟩
  have hne : a ≠ C := PySem.W.ks_ne kIn J hcl
  show PySem.wpAt (model P w) (A.deeper (PySem.W.ksEnv qual scope s.heap.objs.size f (.ref cda) cc)) (.func _ (PySem.W.ksEnv qual scope s.heap.objs.size f (.ref cda) cc)) (execs _ (PySem.W.ksEnv qual scope s.heap.objs.size f (.ref cda) cc)) _ _ _
  refine ks_wpAt_execs_cons (ks_wpAt_Expr_any (ks_wpAt_MethodCall (pl := pl s.heap.objs.size) (ks_wpAt_super_base (f := f) S.sup S.cls (by decide) rfl (kIn _ _ lk) rfl hp0 rfl (kIn _ _ hcode) rfl hvs hfile T.top ?_) (hc _)) (hint _) (hsw _))
  refine PySem.W.ks_loadName_global S.kind S.sup (PySem.Calls.loadGlobal_builtin (mg := mg) (mb := mb) (I.mod.glob.keeps I.bk) hsup (hmb.keeps I.bk) ((hbb _ (by decide +kernel)).trans (by first | boot_by_name | rfl | kernel_rfl)) ⟨rfl, ?_⟩)
  refine wpAny_loadName_free S.kind S.cls rfl ⟨_, kIn _ _ hcell, rfl⟩ ?_
  refine wpAny_loadName_local S.kind (S.par _ hps) hn hma ?_
  refine ks_wpAny_isType_cls (kIn _ _ hC) rfl ⟨rfl, ?_⟩
  refine ks_wpAny_call_super (kIn _ _ hC) rfl ho rfl (fun c z => by cases z) (PySem.W.looks_mroIn kIn T.self) (fun h2 e2 kk2 => ?_)
  have I2 : Inv (cxSup P w K mg base N qual scope f cda cc A outer s H) [] (L2.start N vs) H { s with heap := h2, toks := s.toks + (ps.zip us).length } := I.kept (t' := s.toks + (ps.zip us).length) kk2
  have hm2 := T.up
  unfold PySem.W.ks_superIn at hm2
  rw [hcl] at hm2
  have J2 : PySem.W.InstAt h2 a { cls := .ref C, dict := none, data := .fields #[.ref t1, .none, .none, .none, .bool false, .none] } C none := ⟨kk2 _ _ ho, rfl, rfl, trivial⟩
  refine PySem.W.kxs_getMethod T.oex.ok.sup e2 (PySem.W.looks_opaque I2.kIn T.opq) (l₀ := .ref C :: bm) (fun A Q E s k q => wpAny_bind ((PySem.W.looks_clsIn I2.kIn hcl) A _ E s k (wpAny_pure q))) rfl I2.kIn hm2
    (J2.type.andThen (PySem.W.looks_subIn I2.kIn T.sub)) hne (by decide) ?_
  have kk3 : ∀ b' o, h2.get? b' = some o → (h2.push (PySem.W.kxs_mw b.ini a)).get? b' = some o := fun b' o z => Heap.get?_push_of_some _ z
  have I3 : Inv (cxSup P w K mg base N qual scope f cda cc A outer s H) [] (L2.start N vs) H { s with heap := h2.push (PySem.W.kxs_mw b.ini a), toks := s.toks + (ps.zip us).length + 1 } := I2.kept (t' := s.toks + (ps.zip us).length + 1) kk3
  have I4 : Inv (cxSup P w K mg base N qual scope f cda cc A outer s H) [(h2.objs.size, PySem.W.kxs_mw b.ini a)] (L2.start N vs) H { s with heap := h2.push (PySem.W.kxs_mw b.ini a), toks := s.toks + (ps.zip us).length + 1 } :=
    ⟨I3.ok, I3.os, I3.bare, I3.base, I3.loc, I3.cell, I3.free, I3.freeC, fun p hp => by
      have hp' : p = (h2.objs.size, PySem.W.kxs_mw b.ini a) := List.mem_singleton.mp hp
      subst hp'
      exact ⟨Heap.get?_push_at rfl rfl, I2.hok.fresh (Nat.le_refl _), Nat.ne_of_gt I2.lt, I2.nofs (Nat.le_refl _), fun v z => by cases z⟩, I3.hok, I3.len⟩
  have hev := he s.heap.objs.size
  have hpv := hpl s.heap.objs.size
  show wpAny (model P w) _ (callWith p3 (.ref h2.objs.size) [] (backTo p3 (starEach (e :: es) (PySem.W.ksEnv qual scope s.heap.objs.size f (.ref cda) cc))) []) _ _ _
  have ru := hta.run p3 _ _ _ _ _ I4 hT
  have ru' : wpAny (model P w) (A.deeper (PySem.W.ksEnv qual scope s.heap.objs.size f (.ref cda) cc)) (spliced (backTo p3 (starEach (e :: es) (PySem.W.ksEnv qual scope s.heap.objs.size f (.ref cda) cc)))) _ (fun _ _ => False) _ := ru
  rw [hev] at ru' ⊢
  refine PySem.W.kxs_callWith (i := b.ini) (x := a) (by show (false || (backTo p3 (starEach es _)).any (·.1)) = false; rw [hpv]; rfl) (PySem.Calls.evalArgs_plain ?_)
  refine wpAny_mono ru' (fun ws s5 h5 => ?_) fun _ _ z => z.elim
  obtain ⟨vs5, H5, I5, r5, hl5, he5, hT5⟩ := h5
  have hu5 := (I5.pin _ (List.mem_append_right _ List.mem_cons_self)).1
  refine ⟨hu5, ?_⟩
  refine boundG T.oex I5 he5 hu5 (by show ws.length ≤ sizeLine; rw [← Paired.length r5, sizeLine_eq]; omega) fun s6 I6 => ?_
  have go := ht.run _ _ _ _ _ I6 hT5
  refine wpAt_of_wpAny ?_
  refine wpAny_mono go (fun fl s7 h7 => ?_) fun _ _ z => z.elim
  match fl, h7 with
  | .ret u, ⟨v, σ2, H2, J7, rv, q7⟩ => exact ⟨v, H2, J7.os, J7.bare, J7.base, J7.hok, rv, q7⟩
  | .next, ⟨σ2, H2, J7, q7⟩ => exact ⟨V.non, H2, J7.os, J7.bare, J7.base, J7.hok, rfl, q7⟩
  | .brk, ⟨_, _, _, q7⟩ => exact q7.elim
  | .cont, ⟨_, _, _, q7⟩ => exact q7.elim
end
end Cr
/-! errors with one value that is copied -/
namespace Cr
open PySem PySem.Spec PyProof.Rows L2 Evl
/-- its __init__: a copy of the value in the field f -/
def spInitC (C : Addr) (f : Str) (n : Nat) : Sp := fun vs H Q _ => ∃ (a : Addr) (v : V) (d : PyData), vs = [.ref a, v] ∧ Dt H v d ∧ cpy d = true ∧ dpt d < n ∧ H a = some (exo a C none) ∧
  ∀ v' H' dx, Ex H H' → Dt (dif H H') v' d → H' dx = none → dx ≠ a → Q .non (upd (upd H' dx (exd dx [(f, v')])) a (exo a C (some dx)))
abbrev sIInvalidName : Stmt := inClass (topS 4) 0
theorem scIInvalidName : SupScope ["self", "value"] ["self", "value"] (defScope sIInvalidName) := ⟨rfl, rfl, rfl, by decide +kernel, rfl, by decide +kernel, by decide +kernel, by decide +kernel, by decide +kernel, by decide +kernel⟩
section
variable {P : Program} {w : World} {K : PySem.W.Frag} {mg : Str → Option Value} {base : Heap}
theorem ok_iInvalidName {C fI : Addr} {fd : FuncData} {b : XB} {k : Nat} (T : ErrAt P K mg C fI fd b "InvalidName" "InvalidName.__init__" "value" sIInvalidName) (B : Blt mg) (h1 : HasO P w K mg base k "copied" ["value"] (spCopied k)) : FnOk P w K mg base CX0 (k + 1) fI fd ["self", "value"] (spInitC C "value" k) := by
  obtain ⟨f1, d1, G1, b1, k1, g1⟩ := h1.ex
  obtain ⟨cda, cc, oc, od, an, kV, doc, pm, ct, osl, rfl, lk, hcd, S⟩ := T.ex
  refine okSupGR lk hcd scIInvalidName S B.sup rfl rfl (by decide) (fun vs H Q E h => by obtain ⟨_, _, _, rfl, _⟩ := h; rfl) (fun A outer s H vs Q E hr h => ?_)
  obtain ⟨a, v, d, rfl, hd, hc, hn, ha, q⟩ := h
  refine ⟨a, _, _, rfl, ha, pa_cons pe_str pa_nil, pss_one (ps_ostG (pv 0) (pe_call (E := E0) G1 hr (by rfl) g1 k1 b1 .nil pass0 (pa_cons (pv 1) pa_nil))), ?_⟩
  refine ⟨by show 1 ≤ 1000; decide, ha, v, rfl, ?_⟩
  cases k with
  | zero => omega
  | succ n => exact ⟨v, d, rfl, hd, hc, by omega, fun v' H' e' hv' => ⟨.ref a, rfl, a, C, b, rfl, S.oex, T.no, .inl ⟨e' _ _ ha, fun dx hdx ne => q v' H' dx e' hv' hdx ne⟩⟩⟩
end
end Cr
/-! errors with two values -/
namespace Cr
open PySem PySem.Spec PyProof.Rows L2 Evl
/-- the heap behind two fields -/
def two2 (H : Hp) (a C dx : Addr) (f g : Str) (v u : V) : Hp := upd (upd (upd H dx (exd dx [(f, v)])) a (exo a C (some dx))) dx (exd dx [(g, u), (f, v)])
/-- .. a text -/
def spInit2S (C : Addr) (f g : Str) : Sp := fun vs H Q _ => ∃ (a : Addr) (v : V) (x : Str), vs = [.ref a, v, .str x] ∧ x.length ≤ 1000 ∧ H a = some (exo a C none) ∧ ∀ dx, H dx = none → dx ≠ a → Q .non (two2 H a C dx f g v (.str x))
abbrev sIWrongState : Stmt := inClass (topS 8) 0
theorem scIWrongState : SupScope ["self", "module", "found"] ["self", "module", "found"] (defScope sIWrongState) := ⟨rfl, rfl, rfl, by decide +kernel, rfl, by decide +kernel, by decide +kernel, by decide +kernel, by decide +kernel, by decide +kernel⟩
section
variable {P : Program} {w : World} {K : PySem.W.Frag} {mg : Str → Option Value} {base : Heap}
theorem ok_iWrongState {C fI : Addr} {fd : FuncData} {b : XB} {k : Nat} (T : ErrAt P K mg C fI fd b "WrongState" "WrongState.__init__" "module" sIWrongState) (n2 : PySem.W.findIn K (.ref C) "found" = some none) (B : Blt mg) : FnOk P w K mg base CX0 (k + 1) fI fd ["self", "module", "found"] (spInit2S C "module" "found") := by
  obtain ⟨cda, cc, oc, od, an, kV, doc, pm, ct, osl, rfl, lk, hcd, S⟩ := T.ex
  refine okSupG lk hcd scIWrongState S B.sup rfl rfl (by decide) (fun vs H Q E h => by obtain ⟨_, _, _, rfl, _⟩ := h; rfl) (fun A outer s H vs Q E h => ?_)
  obtain ⟨a, v, x, rfl, hx, ha, q⟩ := h
  refine ⟨a, _, _, rfl, ha, pa_cons (pe_joined (.cons pe_str (.cons (pe_fmt (pv 2)) .nil))) pa_nil, pss_cons (ps_ostG (pv 0) (pv 1)) (pss_one (ps_ostG (pv 0) (pv 2))), ?_⟩
  have l0 : (Str.empty ++ ("the module is in the wrong state, " : Str)).length ≤ 100 := by decide +kernel
  refine ⟨_, rfl, Nat.le_trans l0 (by rw [sizeLine_eq]; decide), .str x, rfl, .inl ⟨x, rfl, by rw [sizeLine_eq]; omega, _, rfl, by rw [len_add, sizeLine_eq]; omega, ?_⟩⟩
  exact ⟨by show 1 ≤ 1000; decide, ha, v, rfl, .ref a, rfl, a, C, b, rfl, S.oex, T.no, .inl ⟨ha, fun dx hdx ne => ⟨.str x, rfl, .ref a, rfl, a, C, b, rfl, S.oex, n2, .inr ⟨dx, _, upd_same, by rw [upd_ne ne, upd_same], by show 1 ≤ 900; decide, q dx hdx ne⟩⟩⟩⟩
end
end Cr
/-! errors whose second value is copied -/
/-! own errors as they are made and raised, by the data of their fields -/
namespace Cr
open PySem PySem.Spec PyProof.Rows L2 Evl
def cpyTo (n : Nat) (d : PyData) : Prop := cpy d = true ∧ dpt d < n
def MkErr (P : Program) (w : World) (K : PySem.W.Frag) (mg : Str → Option Value) (base : Heap) (k : Nat) (C : Addr) (cn : Str) (m : Nat) (sp : Sp) : Prop :=
  ∃ (fI : Addr) (fd : FuncData) (b : XB) (ps : List Str), ps.length = m + 1 ∧ OexG K C b ∧ FnOk P w K mg base CX0 k fI fd ps sp ∧ Binds K fd ps [] ∧ PySem.W.findIn K (.ref C) "__init__" = some (some (.ref fI)) ∧ PySem.W.typeIn K (.ref fI) = some (.type "function") ∧ mg cn = some (.ref C)
theorem mkErr_of {P : Program} {w : World} {K : PySem.W.Frag} {mg : Str → Option Value} {base : Heap} {k m : Nat} {C fI : Addr} {fd : FuncData} {b : XB} {cn qual fld : Str} {st : Stmt} {ps : List Str} {sp : Sp} (T : ErrAt P K mg C fI fd b cn qual fld st) (hm : ps.length = m + 1) (G : FnOk P w K mg base CX0 k fI fd ps sp)
    (hb : ∀ (kV doc pm ct : Value) (an : Option Addr) (cda cc : Addr) (us : List Value), us.length = ps.length → bindArgs (PySem.W.ksFn "__init__" qual (defArgs st) (defBody st) (defScope st) .none kV doc pm an (.ref cda) ct cc) ⟨us, []⟩ = pure (ps.zip us)) : MkErr P w K mg base k C cn m sp := by
  obtain ⟨cda, cc, oc, od, an, kV, doc, pm, ct, osl, rfl, lk, hcd, S⟩ := T.ex
  exact ⟨fI, _, b, ps, hm, S.oex, G, .all fun us hl => hb kV doc pm ct an cda cc us hl, T.init, T.fn, T.at_⟩
/-- raised with the datum d in the field f -/
structure Rsd1 (H H' : Hp) (dx : Addr) (f : Str) (d : PyData) : Prop where
  new : H dx = none
  ex : Ex H H'
  at_ : ∃ v, H' dx = some (.xd [(f, v)]) ∧ Dt H' v d
/-- .. with two -/
structure Rsd2 (H H' : Hp) (dx : Addr) (f g : Str) (d e : PyData) : Prop where
  new : H dx = none
  ex : Ex H H'
  at_ : ∃ v u, H' dx = some (.xd [(g, u), (f, v)]) ∧ Dt H' v d ∧ Dt H' u e
theorem Rsd1.back {H0 H H' : Hp} {dx : Addr} {f : Str} {d : PyData} (r : Rsd1 H H' dx f d) (e : Ex H0 H) : Rsd1 H0 H' dx f d := ⟨fresh_back e r.new, e.trans r.ex, r.at_⟩
theorem Rsd2.back {H0 H H' : Hp} {dx : Addr} {f g : Str} {d e' : PyData} (r : Rsd2 H H' dx f g d e') (e : Ex H0 H) : Rsd2 H0 H' dx f g d e' := ⟨fresh_back e r.new, e.trans r.ex, r.at_⟩
section
variable {C : Addr} {f g : Str} {n : Nat} {ta : TA} {σ : L2.St} {H : Hp} {Q : XK}
theorem mk_cpy (h : ta σ H fun vs H1 => ∃ v d, vs = [v] ∧ Dt H1 v d ∧ cpyTo n d ∧ ∀ dx H', Rsd1 H1 H' dx f d → Q (.ref C) (some dx) H')
    (mono : ∀ {σ : L2.St} {H : Hp} {R S : List V → Hp → Prop}, (∀ vs H1, R vs H1 → S vs H1) → ta σ H R → ta σ H S) : tMkO C (spInitC C f n) [] ta σ H Q := by
  refine mono (fun vs H1 hh => ?_) h
  obtain ⟨v, d, rfl, hd, ⟨c1, c2⟩, q⟩ := hh
  refine ⟨by show 1 ≤ 1000; decide, fun a ha => ⟨a, v, d, rfl, Dt.ex (Ex.new ha) hd, c1, c2, upd_same, fun v' H' dx e1 hv hx ne => ⟨rfl, dx, [(f, v')], upd_same, ?_, ?_, ?_⟩⟩⟩
  · rw [upd_ne ne, upd_same]
  · cases z : H1 dx with
    | none => rfl
    | some o => rw [e1 dx o (by rw [upd_ne ne]; exact z)] at hx; cases hx
  · have z1 : H1 dx = none := by
      cases z : H1 dx with
      | none => rfl
      | some o => rw [e1 dx o (by rw [upd_ne ne]; exact z)] at hx; cases hx
    refine q dx _ ⟨z1, fun b o hb => ?_, v', upd_same, Dt.ex (fun b o hb => ?_) hv⟩
    · have na : b ≠ a := ne_of_none hb ha
      have nx : b ≠ dx := ne_of_none hb z1
      rw [upd_ne nx, del_ne na, upd_ne na, upd_ne nx]
      exact e1 b o (by rw [upd_ne na]; exact hb)
    · obtain ⟨zb, h1⟩ := dif_get hb
      have na : b ≠ a := fun q => by rw [q, upd_same] at zb; cases zb
      have nx : b ≠ dx := ne_of_none h1 hx
      rw [upd_ne nx, del_ne na, upd_ne na, upd_ne nx]
      exact h1
end
end Cr
/-! except with two classes; a caught error handed to a def -/
namespace Cr
open PySem PySem.Spec PyProof.Rows L2 Evl
/-! ### a def that is handed the error that is handled -/
/-- what it is asked, by the error's class, its dict, its place -/
abbrev SpE := Value → Option Addr → Addr → List V → Hp → VK → Prop
section
variable {X : Cx} {k : Nat} {f a : Addr} {oe : Obj} {cls : Value} {d : Option Addr} {fd : FuncData} {ps : List Str} {sp : SpE} {x : Str} {q pos : Pos} {e : Expr} {es : List Expr} {t : TA}
/-- isinstance of an error that is pinned -/
def rIsP (K : PySem.W.Frag) (D a : Addr) (d : Option Addr) : List V → Hp → VK → Prop := fun xs H Q => ∃ (c : V) (b : Bool), xs = [.ref a, c] ∧ (∀ dd, d = some dd → ∃ fs, H dd = some (.xd fs)) ∧
  ((∃ u, ClsV c u ∧ PySem.W.kitOne K (.ref D) u = some b) ∨ ∃ (tp : Addr) (cs : List V) (us : List Value), c = .ref tp ∧ H tp = some (.tup cs) ∧ Paired ClsV cs us ∧ PySem.W.kitAny K (.ref D) us = some b) ∧ Q (.bl b) H
theorem call_isP {D : Addr} (C : ExcC X.K D) (hp : (a, oe) ∈ X.pn) (hz : Zc (.ref D) d oe) (hf : ∃ vs, oe.data = .fields vs) : CallR X (.builtin "isinstance") (rIsP X.K D a d) := by
  intro pins s σ H xs us Q I r h
  obtain ⟨c, b, rfl, hdd, k, q⟩ := h
  obtain ⟨u1, u2, rfl, r1, r2⟩ := vals2 r
  obtain rfl : u1 = Value.ref a := r1
  obtain ⟨hget, _⟩ := I.pin (a, oe) (List.mem_append.mpr (.inl hp))
  obtain ⟨vs, hv⟩ := hf
  have hcl : (PySem.W.clsIn X.K D).isSome = true := by
    obtain ⟨cd, hc, _⟩ := PySem.W.any_some C.hd
    rw [hc]; rfl
  obtain ⟨od, J⟩ : ∃ od, PySem.W.InstAt s.heap a oe D od := by
    cases d with
    | none =>
      obtain ⟨oc, od, oda, osl⟩ := oe
      obtain ⟨h1, h2⟩ := hz
      dsimp only at h1 h2 hv
      subst h1 h2 hv
      exact ⟨none, hget, rfl, rfl, trivial⟩
    | some dd =>
      obtain ⟨fs, hd⟩ := hdd dd rfl
      have hx : ObjOk X.prog X.w H s.heap dd (.xd fs) := I.hok dd _ hd
      obtain ⟨mA, hns, hr⟩ := hx
      obtain ⟨od, ho, _⟩ := lookIn_ns hns
      refine ⟨some od, hget, hz.1, by unfold PySem.W.notCls; rw [hv] <;> rfl, ?_⟩
      rw [hz.2]
      exact ho
  have Z : PySem.W.KitX X.K (.ref a) (.ref D) (fun h => PySem.W.InstAt h a oe D od) := PySem.W.kitx_exc hcl C.hg C.hk C.hs C.ha C.hn C.ht C.hm
  rcases k with ⟨u, ku, e⟩ | ⟨tp, cs, us', rfl, hT, ku, e⟩
  · have e2 := ku.eq r2
    subst e2
    exact PySem.W.kia_one Z I.kIn J e (fun z => nomatch z) fun tk => ⟨.bl b, H, I.tok tk, rfl, q⟩
  · cases (show u2 = Value.ref tp from r2)
    obtain ⟨_, its, rv, o, h1, h2, n, h3⟩ := (show ObjOk X.prog X.w H s.heap tp (.tup cs) from I.hok tp _ hT)
    have e3 := ClsV.all ku rv
    subst e3
    obtain ⟨oc, od', dt, sl⟩ := o
    simp only at h2 h3
    subst h2 h3
    exact PySem.W.kia_tup Z I.kIn J h1 e (fun z => nomatch z) fun tk => ⟨.bl b, H, I.tok tk, rfl, q⟩
end
end Cr
/-! == and in, of data of any kind -/
namespace Cr
open PySem PySem.Spec PyProof.Rows L2 Evl
section
variable {X : Cx}
def rEqDt : R2 := fun x y H Q => ∃ d e, Dt H x d ∧ Dt H y e ∧ SeqAt.shaped d = true ∧ SeqAt.shaped e = true ∧ Q (.bl (PyData.eqv d e)) H
theorem op_eqDt (hu : X.A.units + 64 < cLine) : OpR X (compareOp .Eq) rEqDt := by
  intro pins s σ H x y v u Q I rx ry h
  obtain ⟨d, e, hd, he, sd, se, q⟩ := h
  obtain ⟨as, r1⟩ := (Dt.shown I hd rx).1
  obtain ⟨bs, r2⟩ := (Dt.shown I he ry).1
  exact SeqAt.compareEq_shaped r1 r2 sd se hu ⟨.bl _, H, I, rfl, q⟩
end
end Cr
/-! Cr: == and != of an own class with its own ==, from both sides -/
/-! Cr: the comparison itself, own object at the left or at the right -/
/-! Cr: == and != as expressions, for a class with its own == -/
namespace Cr
open PySem PySem.Spec PyProof.Rows L2 Evl
/-- data at the other side -/
def OthB (H : Hp) : V → Prop
  | .non => True
  | .int _ => True
  | .str _ => True
  | .ref p => (∃ xs, H p = some (.lst xs)) ∨ (∃ xs, H p = some (.tup xs)) ∨ ∃ kvs, H p = some (.dK kvs)
  | _ => False
theorem OthB.ex {H H' : Hp} {y : V} (h : OthB H y) (e : Ex H H') : OthB H' y := by
  cases y with
  | ref p =>
    rcases h with ⟨xs, z⟩ | ⟨xs, z⟩ | ⟨xs, z⟩
    · exact .inl ⟨xs, e _ _ z⟩
    · exact .inr (.inl ⟨xs, e _ _ z⟩)
    · exact .inr (.inr ⟨xs, e _ _ z⟩)
  | _ => exact h
section
variable {X : Cx} {n : Nat} {C f : Addr} {fd : FuncData} {ps : List Str} {sp : Sp} {E : XK} {CX : CXT}
theorem runOwn {A : Around} {pins : List (Addr × Obj)} {σ : L2.St} {H : Hp} {s : Shared} {vs : List V} {us : List Value} {Q : VK} (F : FnOk X.prog X.w X.K X.mg X.base CX n f fd ps sp) (hb : Binds X.K fd ps []) (hx : Passes CX X E) (sb : L2.Sub X n A) (I : Inv X pins σ H s) (r : Vals vs us) (hsp : sp vs H Q E) :
    wpAny (model X.prog X.w) A (call (.ref f) us) (fun v s' => ∃ z H', Inv X pins σ H' s' ∧ RelV z v ∧ Q z H') X.xe s := by
  have e0 : Env0 X.prog X.w X.K X.mg X.base A X.stack s H := by
    have e := I.env0
    exact ⟨by rw [sb.fr]; exact e.frames, e.mod, e.bs, e.bsz, e.funs, e.frf, e.hok, e.bare⟩
  have hl := F.len _ _ _ _ hsp
  refine wpAny_call (codeAny_mono (F.run A X.stack s H ⟨us, []⟩ us vs _ E sb.room e0 (by
    have := hb s us I.kIn (by rw [List.append_nil, ← r.length]; exact hl)
    simpa using this) r hsp) fun r s' hq => ?_)
  cases r with
  | error e => exact hx pins σ H s e s' I hq
  | ok fl =>
    cases fl with
    | ret w =>
      obtain ⟨z, H', I', rz, q⟩ := I.after hq
      exact ⟨z, H', I', rz, q⟩
    | next => exact False.elim hq
    | brk => exact False.elim hq
    | cont => exact False.elim hq
end
end Cr
/-! == and in, of data of any kind, dicts among them -/
/-! C(..) in a try: what __init__ raises wished for at the caller's slots -/
/-! expressions by the data that they give -/
namespace Cr
open PySem PySem.Spec PyProof.Rows L2 Evl
def EvD (te : TE) (σ : L2.St) (H : Hp) (d : PyData) : Prop := ∀ H1, Ex H H1 → ∀ Q : VK, (∀ v H2, Ex H1 H2 → Dt H2 v d → Q v H2) → te σ H1 Q
def EvDA (ta : TA) (σ : L2.St) (H : Hp) (ds : List PyData) : Prop := ∀ H1, Ex H H1 → ∀ Q : List V → Hp → Prop, (∀ vs H2, Ex H1 H2 → DtAll H2 vs ds → Q vs H2) → ta σ H1 Q
theorem dtAll_mem' {H : Hp} : ∀ {vs : List V} {ds : List PyData} {v : V}, DtAll H vs ds → v ∈ vs → ∃ d ∈ ds, Dt H v d
  | _, _, _, .nil, h => nomatch h
  | _, _, _, .cons a b, h => by
    rcases List.mem_cons.mp h with rfl | h
    · exact ⟨_, List.mem_cons_self, a⟩
    · obtain ⟨d, h1, h2⟩ := dtAll_mem' b h
      exact ⟨d, List.mem_cons_of_mem _ h1, h2⟩
theorem dtAll_len {H : Hp} : ∀ {vs : List V} {ds : List PyData}, DtAll H vs ds → vs.length = ds.length
  | _, _, .nil => rfl
  | _, _, .cons _ b => by rw [List.length_cons, List.length_cons, dtAll_len b]
def rNeDt : R2 := fun x y H Q => ∃ d e, Dt H x d ∧ Dt H y e ∧ SeqAt.shaped d = true ∧ SeqAt.shaped e = true ∧ Q (.bl (!PyData.eqv d e)) H
theorem op_neDt {X : Cx} (hu : X.A.units + 64 < cLine) : OpR X (compareOp .NotEq) rNeDt := by
  intro pins s σ H x y v u Q I rx ry h
  obtain ⟨d, e, hd, he, sd, se, q⟩ := h
  obtain ⟨as, r1⟩ := (Dt.shown I hd rx).1
  obtain ⟨bs, r2⟩ := (Dt.shown I he ry).1
  exact SeqAt.compareNe_shaped r1 r2 sd se hu ⟨.bl _, H, I, rfl, q⟩
section
variable {te : TE} {ta : TA} {σ : L2.St} {H : Hp} {v : V} {d : PyData} {ds : List PyData}
theorem evd_of (h : Ev te σ H v) (hd : Dt H v d) : EvD te σ H d := fun H1 e Q q => h H1 e _ fun H2 e2 => q v H2 e2 (Dt.ex (e.trans e2) hd)
theorem evd_non : EvD (tC .non) σ H .none := evd_of ev_c .non
theorem evd_str {x : Str} : EvD (tC (.str x)) σ H (.str x) := evd_of ev_c (.str x)
theorem evda_nil : EvDA tNil σ H [] := fun H1 e Q q => q [] H1 (Ex.refl H1) .nil
theorem evda_cons (h1 : EvD te σ H d) (h2 : EvDA ta σ H ds) : EvDA (tCons te ta) σ H (d :: ds) := fun H1 e Q q =>
  h1 H1 e _ fun v H2 e2 hv => h2 H2 (e.trans e2) _ fun vs H3 e3 hvs => q (v :: vs) H3 (e2.trans e3) (.cons (Dt.ex e3 hv) hvs)
theorem evd_lst (h : EvDA ta σ H ds) (hl : ds.length ≤ 1000) : EvD (tLst ta) σ H (.list ds) := fun H1 e Q q =>
  h H1 e _ fun vs H2 e2 hvs => ⟨Nat.le_trans (Nat.le_of_eq (dtAll_len hvs)) (Nat.le_trans hl (by decide)), fun l hl' => q (.ref l) _ (e2.trans (Ex.new hl')) (.lst upd_same (DtAll.ex (Ex.new hl') hvs))⟩
theorem evd_tup (h : EvDA ta σ H ds) (hl : ds.length ≤ 1000) : EvD (tTup ta) σ H (.tuple ds) := fun H1 e Q q =>
  h H1 e _ fun vs H2 e2 hvs => ⟨Nat.le_trans (Nat.le_of_eq (dtAll_len hvs)) (Nat.le_trans hl (by decide)), fun l hl' => q (.ref l) _ (e2.trans (Ex.new hl')) (.tup upd_same (DtAll.ex (Ex.new hl') hvs))⟩
theorem evd_dnew : EvD tDNewK σ H (.dict []) := fun H1 e Q q => fun l hl => q (.ref l) _ (Ex.new hl) (.dct upd_same .nil)
theorem dt_lst {H : Hp} {v : V} (h : Dt H v (.list ds)) : ∃ a xs, v = .ref a ∧ H a = some (.lst xs) ∧ DtAll H xs ds := by
  cases h with
  | lst h1 h2 => exact ⟨_, _, rfl, h1, h2⟩
theorem dtAll_app {H : Hp} : ∀ {xs ys : List V} {ds es : List PyData}, DtAll H xs ds → DtAll H ys es → DtAll H (xs ++ ys) (ds ++ es)
  | _, _, _, _, .nil, h => h
  | _, _, _, _, .cons a b, h => .cons a (dtAll_app b h)
theorem evd_cat {t1 t2 : TE} {es : List PyData} (h1 : EvD t1 σ H (.list ds)) (h2 : EvD t2 σ H (.list es)) (hl : ds.length + es.length ≤ 1000) : EvD (tOp rCat t1 t2) σ H (.list (ds ++ es)) := fun H1 e Q q =>
  h1 H1 e _ fun v H2 e2 hv => h2 H2 (e.trans e2) _ fun u H3 e3 hu => by
    obtain ⟨a, xs, rfl, ha, hx⟩ := dt_lst (Dt.ex e3 hv)
    obtain ⟨b, ys, rfl, hb, hy⟩ := dt_lst hu
    exact ⟨a, b, xs, ys, rfl, rfl, ha, hb, Nat.le_trans (by rw [dtAll_len hx, dtAll_len hy]; exact hl) (by decide), fun p hp => q (.ref p) _ ((e2.trans e3).trans (Ex.new hp)) (.lst upd_same (DtAll.ex (Ex.new hp) (dtAll_app hx hy)))⟩
theorem s_forD {K : PySem.W.Frag} {tl : TE} {tu : TS} {D : Ends} {g : TG} (h : EvD tl σ H (.list ds)) (Pv : L2.St → Prop) (h0 : Pv σ)
    (hs : ∀ H1, Ex H H1 → ∀ v d σ' H', d ∈ ds → Ex H1 H' → Dt H' v d → Pv σ' → g v σ' H' fun σ2 H2 => tu { D with nx := fun σ3 H3 => Pv σ3 ∧ Ex H1 H3, ct := fun σ3 H3 => Pv σ3 ∧ Ex H1 H3, bk := D.nx } σ2 H2)
    (hd : ∀ σ' H', Pv σ' → Ex H H' → D.nx σ' H') : tFor (iList K tl) g tu D σ H :=
  h H (Ex.refl H) _ fun v H1 e hv => by
    obtain ⟨a, xs, rfl, ha, hx⟩ := dt_lst hv
    refine ⟨a, rfl, ⟨xs, sq_of ha⟩, for_list (fun _ σ' H' => Pv σ' ∧ Ex H1 H') ⟨h0, Ex.refl H1⟩ (fun i σ' H' _ hP => sq_of (hP.2 _ _ ha)) (fun i x σ' H' hi hP => ?_) (fun σ' H' hP => hd σ' H' hP.1 (e.trans hP.2))⟩
    obtain ⟨d, hd1, hd2⟩ := dtAll_mem' hx (List.mem_of_getElem? hi)
    exact hs H1 e x d σ' H' hd1 hP.2 (Dt.ex hP.2 hd2) hP.1
end
end Cr
/-! check_name; graphs of needs: what they look like -/
namespace Cr
open PySem PySem.Spec PyProof.Rows L2 Evl
abbrev sCheckN : Stmt := topS 14
theorem scCheckN : FnScope ["value"] ["value"] (defScope sCheckN) := ⟨rfl, rfl, rfl, by decide +kernel, rfl, by decide +kernel, by decide +kernel⟩
def spCheckN (CN : Addr) (n : Nat) : Sp := fun vs H Q E => ∃ v d, vs = [v] ∧ Dt H v d ∧ sm d = true ∧ cpyTo n d ∧ (isName d = true → ∀ H', Ex H H' → Q .non H') ∧ (isName d = false → ∀ dx H', Rsd1 H H' dx "value" d → E (.ref CN) (some dx) H')
/-! ### the graph -/
structure Row where
  s : Str
  a : Addr
  ts : List Str
def kvR (r : Row) : Key × V := (.inr r.s, .ref r.a)
/-- rows in order: the names are of U -/
structure GOk (U : List Str) (g : List Row) : Prop where
  un : ∀ x ∈ U, isNameS x = true
  uf : U.length ≤ 62
  keys : (g.map (·.s)).Nodup
  ads : (g.map (·.a)).Nodup
  nm : ∀ r ∈ g, r.s ∈ U
  ne : ∀ r ∈ g, r.ts ≠ []
  up : ∀ r ∈ g, r.ts.Pairwise ltS
  tn : ∀ r ∈ g, ∀ t ∈ r.ts, t ∈ U
structure NdA where
  dx : Addr
  dd : Addr
structure NdAt (C : Addr) (H : Hp) (x : Addr) (A : NdA) (U : List Str) (g : List Row) : Prop where
  ob : H x = some (.ins C A.dx [("needed", .ref A.dd)])
  di : H A.dd = some (.dK (g.map kvR))
  ls : ∀ r ∈ g, H r.a = some (.lst (r.ts.map V.str))
  ok : GOk U g
def rowOf (g : List Row) (s : Str) : Option Row := g.find? fun r => decide (r.s = s)
def tgS (g : List Row) (s : Str) : List Str := match rowOf g s with | some r => r.ts | none => []
def tgD (g : List Row) : PyData → List Str
  | .str s => tgS g s
  | _ => []
/-- is (d, e) a need -/
def isNd (g : List Row) (d : PyData) : PyData → Bool
  | .str t => decide (t ∈ tgD g d)
  | _ => false
theorem rise_nodup {xs : List Str} (h : xs.Pairwise ltS) : xs.Nodup := by
  rw [List.Nodup]
  exact h.imp fun {a b} z (e : a = b) => ltS_irrefl a (by rw [← e] at z; exact z)
section
variable {C : Addr} {H H' : Hp} {x : Addr} {A : NdA} {U : List Str} {g : List Row}
theorem NdAt.ex (h : NdAt C H x A U g) (e : Ex H H') : NdAt C H' x A U g := ⟨e _ _ h.ob, e _ _ h.di, fun r hr => e _ _ (h.ls r hr), h.ok⟩
theorem NdAt.but {l : List Addr} (h : NdAt C H x A U g) (e : But l H H') (h1 : x ∉ l) (h2 : A.dd ∉ l) (h3 : ∀ r ∈ g, r.a ∉ l) : NdAt C H' x A U g := ⟨e _ _ h1 h.ob, e _ _ h2 h.di, fun r hr => e _ _ (h3 r hr) (h.ls r hr), h.ok⟩
theorem rowOf_mem {s : Str} {r : Row} (h : rowOf g s = some r) : r ∈ g ∧ r.s = s := by
  unfold rowOf at h
  have z := List.find?_some h
  exact ⟨List.mem_of_find?_eq_some h, of_decide_eq_true z⟩
theorem rowOf_in {r : Row} (hk : (g.map (·.s)).Nodup) (h : r ∈ g) : rowOf g r.s = some r := by
  induction g with
  | nil => exact nomatch h
  | cons y g ih =>
    rw [List.map_cons, List.nodup_cons] at hk
    unfold rowOf
    rw [List.find?_cons]
    rcases List.mem_cons.mp h with rfl | h
    · rw [decide_eq_true rfl]
    · have n : ¬ y.s = r.s := fun e => hk.1 (by rw [e]; exact List.mem_map_of_mem h)
      rw [decide_eq_false n]
      exact ih hk.2 h
theorem val_row (g : List Row) (s : Str) : valV (g.map kvR) (Sum.inr s) = (rowOf g s).map fun r => V.ref r.a := by
  unfold valV rowOf
  rw [List.find?_map, Option.map_map]
  have e : (fun kv : Key × V => decide (kv.1 = Sum.inr s)) ∘ kvR = fun r : Row => decide (r.s = s) := by
    funext r
    show decide ((Sum.inr r.s : Key) = Sum.inr s) = decide (r.s = s)
    exact decide_eq_decide.mpr ⟨fun h => Sum.inr.inj h, fun h => by rw [h]⟩
  rw [e]
  rfl
theorem NdAt.tg (h : NdAt C H x A U g) {s : Str} {r : Row} (hr : rowOf g s = some r) : H r.a = some (.lst ((tgS g s).map V.str)) := by
  have e : tgS g s = r.ts := by unfold tgS; rw [hr]
  rw [e]
  exact h.ls r (rowOf_mem hr).1
theorem GOk.tgU (h : GOk U g) {s t : Str} (m : t ∈ tgS g s) : s ∈ U ∧ t ∈ U := by
  unfold tgS at m
  cases e : rowOf g s with
  | none => rw [e] at m; exact nomatch m
  | some r =>
    rw [e] at m
    obtain ⟨h1, h2⟩ := rowOf_mem e
    exact ⟨h2 ▸ h.nm r h1, h.tn r h1 t m⟩
theorem GOk.up' (h : GOk U g) (s : Str) : (tgS g s).Pairwise ltS := by
  unfold tgS
  cases e : rowOf g s with
  | none => exact .nil
  | some r => exact h.up r (rowOf_mem e).1
theorem sub_len {xs ys : List Str} (nd : xs.Nodup) (h : ∀ x ∈ xs, x ∈ ys) : xs.length ≤ ys.length := pigeon nd h
theorem GOk.fewT (h : GOk U g) (s : Str) : (tgS g s).length ≤ 62 := Nat.le_trans (sub_len (rise_nodup (h.up' s)) fun t m => (h.tgU m).2) h.uf
theorem GOk.fewK (h : GOk U g) : g.length ≤ 62 := by
  have := sub_len h.keys fun x hx => by
    obtain ⟨r, hr, rfl⟩ := List.mem_map.mp hx
    exact h.nm r hr
  rw [List.length_map] at this
  exact Nat.le_trans this h.uf
theorem GOk.name (h : GOk U g) {s t : Str} (m : t ∈ tgS g s) : isNameS s = true ∧ isNameS t = true := ⟨h.un _ (h.tgU m).1, h.un _ (h.tgU m).2⟩
theorem tg_other (h : GOk U g) {d : PyData} (hd : isName d = false) : tgD g d = [] := by
  cases d with
  | str s =>
    show tgS g s = []
    unfold tgS
    cases e : rowOf g s with
    | none => rfl
    | some r =>
      obtain ⟨h1, h2⟩ := rowOf_mem e
      have z := h.un _ (h.nm r h1)
      rw [h2] at z
      have hd' : isNameS s = false := hd
      rw [hd'] at z
      cases z
  | _ => rfl
theorem NdAt.xd (h : NdAt C H x A U g) : x ≠ A.dd := fun e => by have z := h.ob; rw [e, h.di] at z; cases z
theorem NdAt.xa (h : NdAt C H x A U g) {r : Row} (hr : r ∈ g) : x ≠ r.a := fun e => by have z := h.ob; rw [e, h.ls r hr] at z; cases z
theorem NdAt.da (h : NdAt C H x A U g) {r : Row} (hr : r ∈ g) : A.dd ≠ r.a := fun e => by have z := h.di; rw [e, h.ls r hr] at z; cases z
/-- a pot is none of its places -/
theorem NdAt.drew {p : Addr} (h : NdAt C H x A U g) (d : Drew p H H') (pot : Pot H p) : NdAt C H' x A U g := by
  obtain ⟨i, j, hp, _⟩ := pot
  refine ⟨d.at (fun e => ?_) h.ob, d.at (fun e => ?_) h.di, fun r hr => d.at (fun e => ?_) (h.ls r hr), h.ok⟩
  · have z := h.ob; rw [e, hp] at z; cases z
  · have z := h.di; rw [e, hp] at z; cases z
  · have z := h.ls r hr
    rw [e, hp] at z
    cases ht : r.ts with
    | nil => exact h.ok.ne r hr ht
    | cons t ts => rw [ht] at z; cases z
end
/-! ### a new row for a source -/
def putG (g : List Row) (n : Row) : List Row := if (rowOf g n.s).isSome = true then g.map (fun y => if y.s = n.s then n else y) else g ++ [n]
theorem putK_row (g : List Row) (n : Row) : putK (g.map kvR) (Sum.inr n.s) (.ref n.a) = (putG g n).map kvR := by
  unfold putK putG
  have e : ((g.map kvR).any fun kv => decide (kv.1 = Sum.inr n.s)) = (rowOf g n.s).isSome := by rw [valV_any, val_row, Option.isSome_map]
  rw [e]
  by_cases h : (rowOf g n.s).isSome = true
  · rw [if_pos h, if_pos h, List.map_map, List.map_map]
    refine List.map_congr_left fun y _ => ?_
    show (if (kvR y).1 = Sum.inr n.s then ((kvR y).1, V.ref n.a) else kvR y) = kvR (if y.s = n.s then n else y)
    by_cases hy : y.s = n.s
    · rw [if_pos hy, if_pos (show (kvR y).1 = Sum.inr n.s by show Sum.inr y.s = Sum.inr n.s; rw [hy])]
      show (Sum.inr y.s, V.ref n.a) = (Sum.inr n.s, V.ref n.a)
      rw [hy]
    · rw [if_neg hy, if_neg (show ¬ (kvR y).1 = Sum.inr n.s from fun z => hy (Sum.inr.inj z))]
  · rw [if_neg h, if_neg h, List.map_append]
    rfl
theorem rowOf_put (g : List Row) (n : Row) (s : Str) : rowOf (putG g n) s = if n.s = s then some n else rowOf g s := by
  unfold putG
  by_cases h : (rowOf g n.s).isSome = true
  · rw [if_pos h]
    have go : ∀ g : List Row, (rowOf g n.s).isSome = true ∨ n.s ≠ s → rowOf (g.map fun y => if y.s = n.s then n else y) s = if n.s = s then (if (rowOf g n.s).isSome = true then some n else none) else rowOf g s := by
      intro g
      induction g with
      | nil => intro hh; rcases hh with hh | hh; · cases hh
               · rw [if_neg hh]; rfl
      | cons y g ih =>
        intro hh
        unfold rowOf at ih hh ⊢
        rw [List.map_cons, List.find?_cons, List.find?_cons, List.find?_cons]
        by_cases hy : y.s = n.s
        · rw [if_pos hy, decide_eq_true hy]
          by_cases hn : n.s = s
          · rw [decide_eq_true hn, if_pos hn]; rfl
          · rw [decide_eq_false hn, if_neg hn]
            have ne : ¬ y.s = s := fun z => hn (hy.symm.trans z)
            rw [decide_eq_false ne]
            have z := ih (.inr hn)
            rw [if_neg hn] at z
            exact z
        · rw [if_neg hy, decide_eq_false hy]
          rw [List.find?_cons, decide_eq_false hy] at hh
          by_cases ys : y.s = s
          · have hn : ¬ n.s = s := fun z => hy (ys.trans z.symm)
            rw [decide_eq_true ys, if_neg hn]
          · rw [decide_eq_false ys]
            exact ih hh
    rw [go g (.inl h), if_pos h]
  · rw [if_neg h]
    unfold rowOf
    rw [List.find?_append, List.find?_cons, List.find?_nil]
    have h' : g.find? (fun r => decide (r.s = n.s)) = none := by
      cases e : rowOf g n.s with
      | none => exact e
      | some r => rw [e] at h; exact absurd rfl h
    by_cases hn : n.s = s
    · rw [decide_eq_true hn, if_pos hn, ← hn, h']; rfl
    · rw [decide_eq_false hn, if_neg hn]
      exact Option.or_none
theorem tgS_put (g : List Row) (n : Row) (s : Str) : tgS (putG g n) s = if n.s = s then n.ts else tgS g s := by
  unfold tgS
  rw [rowOf_put]
  by_cases h : n.s = s
  · rw [if_pos h, if_pos h]
  · rw [if_neg h, if_neg h]
theorem mem_put {g : List Row} {n r : Row} (h : r ∈ putG g n) : r = n ∨ r ∈ g := by
  unfold putG at h
  split at h
  · obtain ⟨y, hy, e⟩ := List.mem_map.mp h
    by_cases hs : y.s = n.s
    · rw [if_pos hs] at e; exact .inl e.symm
    · rw [if_neg hs] at e; exact .inr (e ▸ hy)
  · rcases List.mem_append.mp h with h | h
    · exact .inr h
    · exact .inl (List.mem_singleton.mp h)
theorem put_ok {U : List Str} {g : List Row} {n : Row} (h : GOk U g) (hs : n.s ∈ U) (hne : n.ts ≠ []) (hup : n.ts.Pairwise ltS) (htn : ∀ t ∈ n.ts, t ∈ U) (ha : ∀ r ∈ g, r.a ≠ n.a) : GOk U (putG g n) := by
  refine ⟨h.un, h.uf, ?_, ?_, fun r hr => ?_, fun r hr => ?_, fun r hr => ?_, fun r hr => ?_⟩
  · unfold putG
    split
    · rw [List.map_map]
      have e : (fun y : Row => y.s) ∘ (fun y => if y.s = n.s then n else y) = fun y : Row => y.s := by
        funext y
        show (if y.s = n.s then n else y).s = y.s
        by_cases hy : y.s = n.s
        · rw [if_pos hy, hy]
        · rw [if_neg hy]
      rw [e]
      exact h.keys
    · rename_i hn
      rw [List.map_append, List.nodup_append]
      refine ⟨h.keys, List.pairwise_singleton _ _, fun a ha b hb e => ?_⟩
      obtain ⟨r, hr, rfl⟩ := List.mem_map.mp ha
      rw [List.map_cons, List.map_nil, List.mem_singleton] at hb
      have z := rowOf_in h.keys hr
      rw [e, hb] at z
      rw [z] at hn
      exact hn rfl
  · unfold putG
    split
    · rw [List.map_map]
      have go : ∀ g : List Row, (g.map (·.s)).Nodup → (g.map (·.a)).Nodup → (∀ r ∈ g, r.a ≠ n.a) → (g.map ((fun y : Row => y.a) ∘ fun y => if y.s = n.s then n else y)).Nodup := by
        intro g
        induction g with
        | nil => intro _ _ _; exact List.nodup_nil
        | cons y g ih =>
          intro k1 k2 k3
          rw [List.map_cons, List.nodup_cons] at k1 k2 ⊢
          refine ⟨fun m => ?_, ih k1.2 k2.2 fun r hr => k3 r (List.mem_cons_of_mem _ hr)⟩
          obtain ⟨z, hz, e⟩ := List.mem_map.mp m
          have e' : (if z.s = n.s then n else z).a = (if y.s = n.s then n else y).a := e
          by_cases hy : y.s = n.s
          · have hzn : ¬ z.s = n.s := fun q => k1.1 (by rw [hy, ← q]; exact List.mem_map_of_mem hz)
            rw [if_pos hy, if_neg hzn] at e'
            exact k3 z (List.mem_cons_of_mem _ hz) e'
          · rw [if_neg hy] at e'
            by_cases hzn : z.s = n.s
            · rw [if_pos hzn] at e'
              exact k3 y List.mem_cons_self e'.symm
            · rw [if_neg hzn] at e'
              exact k2.1 (by rw [← e']; exact List.mem_map_of_mem hz)
      exact go g h.keys h.ads ha
    · rw [List.map_append, List.nodup_append]
      refine ⟨h.ads, List.pairwise_singleton _ _, fun a hm b hb e => ?_⟩
      obtain ⟨r, hr, rfl⟩ := List.mem_map.mp hm
      rw [List.map_cons, List.map_nil, List.mem_singleton] at hb
      exact ha r hr (e.trans hb)
  · rcases mem_put hr with rfl | hr
    · exact hs
    · exact h.nm r hr
  · rcases mem_put hr with rfl | hr
    · exact hne
    · exact h.ne r hr
  · rcases mem_put hr with rfl | hr
    · exact hup
    · exact h.up r hr
  · rcases mem_put hr with rfl | hr
    · exact htn
    · exact h.tn r hr
section
variable {P : Program} {w : World} {K : PySem.W.Frag} {mg : Str → Option Value} {base : Heap}
theorem ok_checkN {f CN : Addr} {fd : FuncData} {k j n : Nat} (F : Fun K "check_name" "check_name" sCheckN f fd) (hj : j + 1 ≤ k) (M : MkErr P w K mg base j CN "InvalidName" 1 (spInitC CN "value" n)) (h1 : HasO P w K mg base k "is_name" ["value"] (spD isName)) :
    FnOk P w K mg base (L2.CX P w) (k + 1) f fd ["value"] (spCheckN CN n) := by
  obtain ⟨f1, d1, G1, b1, k1, g1⟩ := h1.ex
  obtain ⟨fI, fdI, bb, ps, lp, Ox, FI, bI, iI, tI, gC⟩ := M
  refine F.okX scCheckN (fun vs H Q E h => by obtain ⟨_, _, rfl, _⟩ := h; rfl) (fun cdv A outer s H vs Q E hr h => ?_)
  obtain ⟨v, d, rfl, hd, hs, hc, q, qe⟩ := h
  refine ⟨_, pss_one (ps_if (pt_not (pt_val (pe_call (E := E0) G1 hr (by rfl) g1 k1 b1 .nil pass0 (pa_cons (pv 0) pa_nil)))) (pss_one (ps_raise rfl (takes_of rfl rfl rfl rfl) (pmkG Ox iI tI FI (hr.mono hj) bI .nil pass0 (by rfl) gC (pa_cons (pv 0) pa_nil)))) pss_nil), ?_⟩
  refine s_when (b := !isName d) (et_not (et_B (ev_call (ea_cons (ev_var rfl) ea_nil) (spv_D hd hs)))) (fun hb H1 e1 => ?_) (fun hb H1 e1 => ?_)
  · rw [Bool.not_eq_true'] at hb
    exact mk_cpy ⟨v, rfl, v, d, rfl, Dt.ex e1 hd, hc, fun dx H' r => qe hb dx H' (r.back e1)⟩ (fun k ⟨i, e, r⟩ => ⟨i, e, k _ _ r⟩)
  · rw [Bool.not_eq_false'] at hb
    exact q hb H1 e1
end
end Cr
/-! graphs of needs: the methods that only look -/
namespace Cr
open PySem PySem.Spec PyProof.Rows L2 Evl
abbrev sNTarg : Stmt := inClass (topS 18) 11
abbrev sNIs : Stmt := inClass (topS 18) 6
abbrev sNPairs : Stmt := inClass (topS 18) 10
abbrev nNSrc : List Str := ["self", "name", "source"]
abbrev nNPairs : List Str := ["self", "source", "target"]
theorem scNTarg : FnScope ["self", "name"] ["self", "name"] (defScope sNTarg) := ⟨rfl, rfl, rfl, by decide +kernel, rfl, by decide +kernel, by decide +kernel⟩
theorem scNIs : FnScope ["self", "source", "target"] ["self", "source", "target"] (defScope sNIs) := ⟨rfl, rfl, rfl, by decide +kernel, rfl, by decide +kernel, by decide +kernel⟩
theorem scNPairs : FnScope nNPairs ["self"] (defScope sNPairs) := ⟨rfl, rfl, rfl, by decide +kernel, rfl, by decide +kernel, by decide +kernel⟩
structure NdC (K : PySem.W.Frag) (mg : Str → Option Value) (C : Addr) : Prop where
  cl : Cls K C
  nN : NoAttr K C "needed"
  at_ : mg "Needs" = some (.ref C)
theorem bSorted : bootBuiltins "sorted" = some (.builtin "sorted") := by decide +kernel
/-! ### sp's -/
def spTargets (C : Addr) : Sp := fun vs H Q _ => ∃ x v d A U g, vs = [.ref x, v] ∧ NdAt C H x A U g ∧ Dt H v d ∧ sm d = true ∧ ∀ l H', H l = none → Ex H H' → H' l = some (.lst ((tgD g d).map V.str)) → Q (.ref l) H'
def spIsNeed (C : Addr) : Sp := fun vs H Q _ => ∃ x v u d e A U g, vs = [.ref x, v, u] ∧ NdAt C H x A U g ∧ Dt H v d ∧ Dt H u e ∧ sm d = true ∧ sm e = true ∧ ∀ H', Ex H H' → Q (.bl (isNd g d e)) H'
/-- the sorted keys -/
def srcs (g : List Row) : List Str := srtS (g.map (·.s))
def srcD (g : List Row) (d : PyData) : List Str := (srcs g).filter fun s => isNd g (.str s) d
def prs (g : List Row) : List Pr := (srcs g).flatMap fun s => (tgS g s).map fun t => (s, t)
def spSources (C : Addr) : Sp := fun vs H Q _ => ∃ x v d A U g, vs = [.ref x, v] ∧ NdAt C H x A U g ∧ Dt H v d ∧ sm d = true ∧ ∀ l H', H l = none → Ex H H' → H' l = some (.lst ((srcD g d).map V.str)) → Q (.ref l) H'
/-- the sorted pairs, new -/
def spPairs (C : Addr) : Sp := fun vs H Q _ => ∃ x A U g, vs = [.ref x] ∧ NdAt C H x A U g ∧ ∀ l xs H', H l = none → Ex H H' → H' l = some (.lst xs) → DtAll (wo l H') xs ((prs g).map pD) → Q (.ref l) H'
/-! ### evaluating methods -/
section
variable {K : PySem.W.Frag} {σ : L2.St} {H : Hp} {ta te tb : TE} {t : TA} {C x dx : Addr} {fs : List (Str × V)} {m : Str} {sp : Sp} {E : XK} {vs xs : List V} {z : V}
theorem el_if {tt : TT} {b : Bool} (h : EvT tt σ H b) (h1 : b = true → EvL ta σ H xs) (h2 : b = false → EvL tb σ H xs) : EvL (tIf tt ta tb) σ H xs := fun H1 e Q q => h H1 e _ fun H2 e2 => by
  cases b with
  | true =>
    show ta σ H2 Q
    exact h1 rfl H2 (e.trans e2) Q fun p H3 zp e3 => q p H3 (fresh_back e2 zp) (e2.trans e3)
  | false =>
    show tb σ H2 Q
    exact h2 rfl H2 (e.trans e2) Q fun p H3 zp e3 => q p H3 (fresh_back e2 zp) (e2.trans e3)
theorem ev_meth (h : Ev ta σ H (.ref x)) (ho : H x = some (.ins C dx fs)) (hl : fs.lookup m = none) (ha : EvA t σ H vs) (hs : SpV sp (.ref x :: (vs ++ [])) H z) : Ev (tMeth C m sp [] E ta t) σ H z := fun H1 e Q q =>
  h H1 e _ fun H2 e2 => ⟨x, dx, fs, rfl, (e.trans e2) _ _ ho, hl, ha H2 (e.trans e2) _ fun H3 e3 => hs H3 ((e.trans e2).trans e3) Q (fun H4 e4 => q H4 ((e2.trans e3).trans e4)) E⟩
theorem el_meth (h : Ev ta σ H (.ref x)) (ho : H x = some (.ins C dx fs)) (hl : fs.lookup m = none) (ha : EvA t σ H vs) (hs : SpL sp (.ref x :: (vs ++ [])) H xs) : EvL (tMeth C m sp [] E ta t) σ H xs := fun H1 e Q q =>
  h H1 e _ fun H2 e2 => ⟨x, dx, fs, rfl, (e.trans e2) _ _ ho, hl, ha H2 (e.trans e2) _ fun H3 e3 => hs H3 ((e.trans e2).trans e3) Q (fun p H4 zp e4 => q p H4 (fresh_back (e2.trans e3) zp) ((e2.trans e3).trans e4)) E⟩
theorem spl_targets {A : NdA} {U : List Str} {g : List Row} {v : V} {d : PyData} (h : NdAt C H x A U g) (hd : Dt H v d) (hs : sm d = true) : SpL (spTargets C) [.ref x, v] H ((tgD g d).map V.str) := fun H1 e Q q E => ⟨x, v, d, A, U, g, rfl, h.ex e, Dt.ex e hd, hs, q⟩
theorem spv_isNeed {A : NdA} {U : List Str} {g : List Row} {v u : V} {d e : PyData} (h : NdAt C H x A U g) (hd : Dt H v d) (he : Dt H u e) (hs : sm d = true) (hs2 : sm e = true) : SpV (spIsNeed C) [.ref x, v, u] H (.bl (isNd g d e)) := fun H1 e1 Q q E => ⟨x, v, u, d, e, A, U, g, rfl, h.ex e1, Dt.ex e1 hd, Dt.ex e1 he, hs, hs2, q⟩
end
abbrev rSrtD : List V → Hp → VK → Prop := fun xs H Q => ∃ (a : Addr) (kvs : List (Key × V)) (ks : List Str), xs = [.ref a] ∧ Rd H a (.dK kvs) ∧ kvs.map (·.1) = ks.map Sum.inr ∧ ks.length < 64 ∧ ∀ ys p, ys.Perm ks → sortedS ys = true → H p = none → Q (.ref p) (upd H p (.lst (ys.map V.str)))
theorem el_srcs {K : PySem.W.Frag} {mg : Str → Option Value} {C x : Addr} {σ : L2.St} {H : Hp} {A : NdA} {U : List Str} {g : List Row} {te : TE} (T : NdC K mg C) (h : NdAt C H x A U g) (hx : Ev te σ H (.ref x)) : EvL (tCB rSrtD (tCons (tFld K te "needed") tNil)) σ H ((srcs g).map V.str) := fun H1 e Q q => by
  refine ev_fld (v := .ref A.dd) hx h.ob T.cl T.nN rfl H1 e _ fun H2 e2 => ⟨A.dd, g.map kvR, g.map (·.s), rfl, .inl ((e.trans e2) _ _ h.di), ?_, ?_, fun ys p hp hs zp => ?_⟩
  · rw [List.map_map, List.map_map]; rfl
  · have := h.ok.fewK
    rw [List.length_map]
    omega
  · rw [sorted_is hp hs]
    exact q p _ (fresh_back e2 zp) (e2.trans (Ex.new zp)) upd_same
theorem mem_srcs {U : List Str} {g : List Row} {s : Str} : s ∈ srcs g ↔ ∃ r ∈ g, r.s = s := by
  unfold srcs
  rw [(srtS_perm _).mem_iff, List.mem_map]
theorem srcs_lt {U : List Str} {g : List Row} (h : GOk U g) : (srcs g).Pairwise ltS := srtS_lt h.keys
theorem srcs_name {U : List Str} {g : List Row} (h : GOk U g) {s : Str} (m : s ∈ srcs g) : isNameS s = true := by
  obtain ⟨r, hr, rfl⟩ := (mem_srcs (U := U)).mp m
  exact h.un _ (h.nm r hr)
theorem srcs_len {U : List Str} {g : List Row} (h : GOk U g) : (srcs g).length ≤ 62 := by
  have := h.fewK
  unfold srcs
  rw [(srtS_perm _).length_eq, List.length_map]
  exact this
theorem srcs_row {U : List Str} {g : List Row} (h : GOk U g) {s : Str} (m : s ∈ srcs g) : ∃ r, rowOf g s = some r := by
  obtain ⟨r, hr, rfl⟩ := (mem_srcs (U := U)).mp m
  exact ⟨r, rowOf_in h.keys hr⟩
theorem sm_name {x : Str} (h : isNameS x = true) : sm (.str x) = true := by
  unfold isNameS at h
  simp only [Bool.and_eq_true, decide_eq_true_eq] at h
  rw [sm]
  exact decide_eq_true (by omega)
section
variable {P : Program} {w : World} {K : PySem.W.Frag} {mg : Str → Option Value} {base : Heap}
theorem ok_targets {f C : Addr} {fd : FuncData} {k : Nat} (F : Fun K "targets" "Needs.targets" sNTarg f fd) (B : Blt mg) (T : NdC K mg C) (h1 : HasO P w K mg base k "is_name" ["value"] (spD isName)) : FnOk P w K mg base CX0 (k + 1) f fd ["self", "name"] (spTargets C) := by
  obtain ⟨f1, d1, G1, b1, k1, g1⟩ := h1.ex
  refine F.ok scNTarg (fun vs H Q E h => by obtain ⟨_, _, _, _, _, _, rfl, _⟩ := h; rfl) (fun cdv A outer s H vs Q E hr h => ?_)
  obtain ⟨x, v, d, A', U, g, rfl, nd, hd, hs, q⟩ := h
  have hu := hu_of hr
  refine ⟨_, pss_one (ps_ret (pe_ifExp (pt_val (pe_call (E := E0) G1 hr (by rfl) g1 k1 b1 .nil pass0 (pa_cons (pv 1) pa_nil))) (pe_callTy call_list_of (by rfl) B.list bList (pa_cons (pe_dget2 hu (pe_fld (pv 0) rfl) (pv 1) (pe_tup pa_nil) ⟨rfl, rfl, rfl, rfl⟩) pa_nil)) (pe_lst pa_nil))), ?_⟩
  refine s_retL (el_if (b := isName d) (et_B (ev_call (ea_cons (ev_var rfl) ea_nil) (spv_D hd hs))) (fun hn => fun H1 e Q' q' => ?_) (fun hn => ?_)) q
  · cases d with
    | str s0 =>
      cases hd with
      | str =>
      refine ⟨.ref x, rfl, x, C, A'.dx, _, .ref A'.dd, rfl, e _ _ nd.ob, T.cl, T.nN, rfl, A'.dd, rfl, .inl ⟨_, .inl (e _ _ nd.di)⟩, .str s0, rfl, by show 0 ≤ sizeLine; decide, fun t zt => ?_⟩
      have e1 : Ex H (upd H1 t (.tup [])) := e.trans (Ex.new zt)
      refine ⟨_, DGet.k (k := Sum.inr s0) (e1 _ _ nd.di), ?_⟩
      rw [val_row]
      cases hr : rowOf g s0 with
      | none =>
        refine ⟨t, [], rfl, .inr (st_of upd_same), fun l zl => q' l _ (fresh_back (Ex.new zt) zl) ((Ex.new zt).trans (Ex.new zl)) ?_⟩
        have e0 : tgD g (.str s0) = [] := by show tgS g s0 = []; unfold tgS; rw [hr]
        rw [e0]
        exact upd_same
      | some r => exact ⟨r.a, (tgS g s0).map V.str, rfl, .inl (sq_of (e1 _ _ (nd.tg hr))), fun l zl => q' l _ (fresh_back (Ex.new zt) zl) ((Ex.new zt).trans (Ex.new zl)) upd_same⟩
    | _ => exact nomatch hn
  · rw [tg_other nd.ok hn]
    exact el_lst ea_nil (by decide)
theorem ok_isNeed {f C : Addr} {fd : FuncData} {k : Nat} (F : Fun K "is_need" "Needs.is_need" sNIs f fd) (T : NdC K mg C) (h1 : HasO P w K mg base k "is_name" ["value"] (spD isName)) (h2 : HasM P w K mg base CX0 k C "targets" ["self", "name"] (spTargets C)) : FnOk P w K mg base CX0 (k + 1) f fd ["self", "source", "target"] (spIsNeed C) := by
  obtain ⟨f1, d1, G1, b1, k1, g1⟩ := h1.ex
  obtain ⟨f2, d2, G2, b2, m2⟩ := h2.ex
  refine F.ok scNIs (fun vs H Q E h => by obtain ⟨_, _, _, _, _, _, _, _, rfl, _⟩ := h; rfl) (fun cdv A outer s H vs Q E hr h => ?_)
  obtain ⟨x, v, u, d, e, A', U, g, rfl, nd, hd, he, hs, hs2, q⟩ := h
  refine ⟨_, pss_one (ps_ret (pe_and (pe_call (E := E0) G1 hr (by rfl) g1 k1 b1 .nil pass0 (pa_cons (pv 2) pa_nil)) (pe_one (pe_cmpR op_in_seq (pv 2) (pe_meth (E := E0) (pv 0) T.cl m2 G2 hr b2 .nil pass0 (pa_cons (pv 1) pa_nil)) (by rfl))))), ?_⟩
  refine s_ret (ev_is (ev_andV (b := isNd g d e) (ev_call (ea_cons (ev_var rfl) ea_nil) (spv_D he hs2)) fun hn => ?_) ?_) q
  · cases e with
    | str t =>
      cases he with
      | str =>
      refine ev_is (ev_opL (ev_var rfl) (el_meth (ev_var rfl) nd.ob rfl (ea_cons (ev_var rfl) ea_nil) (spl_targets nd hd hs)) fun p H1 hp _ => rv_isL (sq_of hp) rfl (flat_strs _)) ?_
      show V.bl (inV (.str t) ((tgD g d).map V.str)) = V.bl (decide (t ∈ tgD g d))
      congr 1
      exact (Bool.eq_iff_iff).mpr (inV_mem.trans (decide_eq_true_iff (p := t ∈ tgD g d)).symm)
    | _ => exact nomatch hn
  · congr 1
    cases hn : isName e with
    | true => rfl
    | false =>
      rw [Bool.false_and]
      cases e with
      | str t =>
        show false = decide (t ∈ tgD g d)
        refine (decide_eq_false fun m => ?_).symm
        cases d with
        | str s0 =>
          have z := (nd.ok.name m).2
          have hn' : isNameS t = false := hn
          rw [hn'] at z
          cases z
        | _ => exact nomatch m
      | _ => rfl
end
end Cr
/-! graphs of needs: pairs, len -/
namespace Cr
open PySem PySem.Spec PyProof.Rows L2 Evl
/-! ### the pairs, by math -/
section
variable {U : List Str} {g : List Row}
theorem mem_prs (h : GOk U g) {p : Pr} : p ∈ prs g ↔ p.2 ∈ tgS g p.1 := by
  unfold prs
  rw [List.mem_flatMap]
  constructor
  · rintro ⟨s, hs, hp⟩
    obtain ⟨t, ht, rfl⟩ := List.mem_map.mp hp
    exact ht
  · intro m
    refine ⟨p.1, ?_, List.mem_map.mpr ⟨p.2, m, rfl⟩⟩
    cases e : rowOf g p.1 with
    | none => unfold tgS at m; rw [e] at m; exact nomatch m
    | some r =>
      obtain ⟨h1, h2⟩ := rowOf_mem e
      exact (mem_srcs (U := U)).mpr ⟨r, h1, h2⟩
theorem rise_flat {f : Str → List Str} : ∀ {ss : List Str}, ss.Pairwise ltS → (∀ s ∈ ss, (f s).Pairwise ltS) → (ss.flatMap fun s => (f s).map fun t => (s, t)).Pairwise ltP2
  | [], _, _ => .nil
  | s :: ss, h, hf => by
    rw [List.pairwise_cons] at h
    rw [List.flatMap_cons, List.pairwise_append]
    refine ⟨?_, rise_flat h.2 fun x hx => hf x (List.mem_cons_of_mem _ hx), fun a ha b hb => ?_⟩
    · refine List.Pairwise.map _ (fun a b z => ?_) (hf s List.mem_cons_self)
      exact .inr ⟨rfl, z⟩
    · obtain ⟨t, _, rfl⟩ := List.mem_map.mp ha
      obtain ⟨s2, hs2, hb⟩ := List.mem_flatMap.mp hb
      obtain ⟨t2, _, rfl⟩ := List.mem_map.mp hb
      exact .inl (h.1 s2 hs2)
theorem prs_lt (h : GOk U g) : (prs g).Pairwise ltP2 := rise_flat (srcs_lt h) fun s _ => h.up' s
theorem prs_srt (h : GOk U g) {ps : List Pr} (nd : ps.Nodup) (hm : ∀ p : Pr, p.2 ∈ tgS g p.1 ↔ p ∈ ps) : srtP ps = prs g := srtP_is (prs_lt h) nd fun p => (mem_prs h).trans (hm p)
theorem flat_len {f : Str → List Str} : ∀ {ss : List Str}, (∀ s ∈ ss, (f s).length ≤ 62) → (ss.flatMap fun s => (f s).map fun t => ((s, t) : Pr)).length ≤ 62 * ss.length
  | [], _ => Nat.le_refl _
  | s :: ss, h => by
    have a := flat_len fun x hx => h x (List.mem_cons_of_mem _ hx)
    have b := h s List.mem_cons_self
    rw [List.flatMap_cons, List.length_append, List.length_map, List.length_cons]
    omega
end
theorem pD_dt {H : Hp} {T : Addr} {s t : Str} (h : H T = some (.tup [.str s, .str t])) : Dt H (.ref T) (pD (s, t)) := .tup h (.cons (.str s) (.cons (.str t) .nil))
/-- what is done so far: all pairs of the first i keys -/
def prsTo (g : List Row) (i : Nat) : List Pr := ((srcs g).take i).flatMap fun s => (tgS g s).map fun t => (s, t)
theorem prsTo_len {U : List Str} {g : List Row} (h : GOk U g) (i : Nat) : (prsTo g i).length ≤ 3844 := by
  have a := flat_len (f := tgS g) (ss := (srcs g).take i) fun s _ => h.fewT s
  have b := srcs_len h
  have c : ((srcs g).take i).length ≤ (srcs g).length := by rw [List.length_take]; omega
  unfold prsTo
  omega
theorem prsTo_succ {g : List Row} {i : Nat} {s : Str} (h : (srcs g)[i]? = some s) : prsTo g (i + 1) = prsTo g i ++ (tgS g s).map fun t => (s, t) := by
  unfold prsTo
  obtain ⟨hi, e⟩ := List.getElem?_eq_some_iff.mp h
  rw [List.take_succ_eq_append_getElem hi, List.flatMap_append, e]
  simp
section
variable {P : Program} {w : World} {K : PySem.W.Frag} {mg : Str → Option Value} {base : Heap}
theorem ok_pairs {f C : Addr} {fd : FuncData} {k : Nat} (F : Fun K "pairs" "Needs.pairs" sNPairs f fd) (B : Blt mg) (T : NdC K mg C) : FnOk P w K mg base CX0 (k + 1) f fd ["self"] (spPairs C) := by
  refine F.ok scNPairs (fun vs H Q E h => by obtain ⟨_, _, _, _, rfl, _⟩ := h; rfl) (fun cdv A outer s H vs Q E hr h => ?_)
  obtain ⟨x, A', U, g, rfl, nd, q⟩ := h
  have hu := hu_of hr
  refine ⟨_, pss_one (ps_ret (pe_lc2 (own := [("source", 1), ("target", 2)]) (vs1 := [2]) (g := gName 1) (tt := tYes) (g1 := gName 2) (tt1 := tYes) (te := tTup (tCons (tVar 1) (tCons (tVar 2) tNil))) (wi1 := iList K (tDGet (tFld K (tVar 0) "needed") (tVar 1))) rfl scNPairs.nd
    (pi_list (pe_callB (call_sortedD rfl) (by rfl) B.sorted bSorted (pa_cons (pe_fld (pv 0) rfl) pa_nil))) (blkOk_by (own := [("source", 1), ("target", 2)]) (N := nNPairs) (sc := defScope sNPairs) (by decide +kernel)) (by decide)
    (fun _ _ _ _ _ => pg_name (i := 1) scNPairs.nd rfl (Or.inl rfl)) (fun _ _ _ _ _ => pts_nil) (fun _ _ _ _ _ => by exact pi_list (pe_dget hu (pe_fld (pv 0) rfl) (pv 1) (fun _ _ => rfl))) (fun _ _ _ _ _ => pg_name (i := 2) scNPairs.nd rfl (Or.inl rfl)) (fun _ _ _ _ _ => pts_nil) (fun _ _ _ _ _ => by exact pe_tup (pa_cons (pv 1) (pa_cons (pv 2) pa_nil))))), ?_⟩
  have ks : EvL (tCB rSrtD (tCons (tFld K (tVar 0) "needed") tNil)) [some (.ref x), none, none] H ((srcs g).map V.str) := el_srcs T nd (ev_var rfl)
  unfold tRet tLc2 iList
  refine ks H (Ex.refl H) _ fun L H1 zL e1 hL => ?_
  refine ⟨L, rfl, ⟨_, sq_of hL⟩, fun D hD => ?_⟩
  have LD : L ≠ D := ne_of_none hL hD
  have len := srcs_len nd.ok
  -- the heap beside the new list
  have nd1 := nd.ex e1
  refine ⟨fun i m H2 => m = (srcs g).length - i ∧ i ≤ (srcs g).length ∧ ∃ acc, H2 D = some (.lst acc) ∧ DtAll (wo D H2) acc ((prsTo g i).map pD) ∧ Ex H1 (wo D H2), ⟨(srcs g).length, by simp, Nat.zero_le _, [], upd_same, .nil, fun b o hb => by rw [wo_ne (ne_of_none hb hD), upd_ne (ne_of_none hb hD)]; exact hb⟩, ?_⟩
  rintro i m H2 ⟨rfl, hi, acc, hacc, hdt, ex2⟩
  have low : Ex H1 H2 := ex2.trans (wo_ex D H2)
  by_cases hlt : i < (srcs g).length
  · have hs : (srcs g)[i]? = some (srcs g)[i] := List.getElem?_eq_getElem hlt
    generalize (srcs g)[i] = s0 at hs
    obtain ⟨r, hr'⟩ := srcs_row nd.ok (List.mem_of_getElem? hs)
    refine .inr ⟨⟨_, .str s0, sq_of (low _ _ hL), by rw [List.getElem?_map, hs]; rfl⟩, fun H3 => ∃ acc, H3 D = some (.lst acc) ∧ DtAll (wo D H3) acc ((prsTo g (i + 1)).map pD) ∧ Ex H1 (wo D H3), fun H' hN => ⟨(srcs g).length - (i + 1), by omega, rfl, hlt, hN⟩, fun y H' hy => ?_⟩
    obtain ⟨rfl, hy⟩ := hy
    have ey : y = .str s0 := by
      have z := hy _ (sq_of (low _ _ hL))
      rw [List.getElem?_map, hs] at z
      exact (Option.some.inj z).symm
    subst ey
    refine ⟨rfl, ?_⟩
    show tYes _ _ _
    have nd2 := nd1.ex low
    refine ⟨.ref x, rfl, x, C, A'.dx, _, .ref A'.dd, rfl, nd2.ob, T.cl, T.nN, rfl, .str s0, rfl, A'.dd, .ref r.a, rfl, ?_, r.a, rfl, ⟨_, sq_of (nd2.tg hr')⟩, ?_⟩
    · have z := DGet.k (k := Sum.inr s0) nd2.di
      rw [val_row, hr'] at z
      exact z
    refine ⟨fun j k H3 => k = (tgS g s0).length - j ∧ j ≤ (tgS g s0).length ∧ ∃ acc, H3 D = some (.lst acc) ∧ DtAll (wo D H3) acc ((prsTo g i ++ ((tgS g s0).take j).map fun t => (s0, t)).map pD) ∧ Ex H1 (wo D H3), ⟨(tgS g s0).length, by simp, Nat.zero_le _, acc, hacc, by rw [List.take_zero, List.map_nil, List.append_nil]; exact hdt, ex2⟩, ?_⟩
    rintro j k H3 ⟨rfl, hj, acc3, hacc3, hdt3, ex3⟩
    have low3 : Ex H1 H3 := ex3.trans (wo_ex D H3)
    have nd3 := nd1.ex low3
    by_cases hjt : j < (tgS g s0).length
    · have ht : (tgS g s0)[j]? = some (tgS g s0)[j] := List.getElem?_eq_getElem hjt
      have htk : (tgS g s0).take (j + 1) = (tgS g s0).take j ++ [(tgS g s0)[j]] := List.take_succ_eq_append_getElem hjt
      generalize (tgS g s0)[j] = t0 at ht htk
      refine .inr ⟨⟨_, .str t0, sq_of (nd3.tg hr'), by rw [List.getElem?_map, ht]; rfl⟩, fun H4 => ∃ acc, H4 D = some (.lst acc) ∧ DtAll (wo D H4) acc ((prsTo g i ++ ((tgS g s0).take (j + 1)).map fun t => (s0, t)).map pD) ∧ Ex H1 (wo D H4), fun H' hN => ⟨(tgS g s0).length - (j + 1), by omega, rfl, hjt, hN⟩, fun y2 H' hy2 => ?_⟩
      obtain ⟨rfl, hy2⟩ := hy2
      have ey2 : y2 = .str t0 := by
        have z := hy2 _ (sq_of (nd3.tg hr'))
        rw [List.getElem?_map, ht] at z
        exact (Option.some.inj z).symm
      subst ey2
      refine ⟨rfl, ?_⟩
      show tYes _ _ _
      refine ⟨.str s0, rfl, .str t0, rfl, by show 2 ≤ sizeLine; decide, fun Tp zT => ?_⟩
      have TD : Tp ≠ D := fun e => by rw [e, hacc3] at zT; cases zT
      have la := dtAll_len hdt3
      refine ⟨acc3, by rw [upd_ne TD.symm]; exact hacc3, ?_, acc3 ++ [.ref Tp], upd_same, ?_, ?_⟩
      · rw [la, List.length_map, List.length_append, List.length_map, List.length_take, sizeLine_eq]
        have a1 := prsTo_len nd.ok i
        have a2 := nd.ok.fewT s0
        omega
      · have exD : Ex (wo D H') (wo D (upd (upd H' Tp (.tup [.str s0, .str t0])) D (.lst (acc3 ++ [.ref Tp])))) := fun b o hb => by
          obtain ⟨n1, hb⟩ := wo_some hb
          rw [wo_ne n1, upd_ne n1, upd_ne (ne_of_none hb zT)]
          exact hb
        have em : (prsTo g i ++ ((tgS g s0).take (j + 1)).map fun t => (s0, t)).map pD = ((prsTo g i ++ ((tgS g s0).take j).map fun t => (s0, t)).map pD) ++ [pD (s0, t0)] := by
          rw [htk]
          simp
        rw [em]
        refine dtAll_app (DtAll.ex exD hdt3) (.cons (pD_dt ?_) .nil)
        rw [wo_ne TD, upd_ne TD, upd_same]
      · intro b o hb
        have n1 : b ≠ D := ne_of_none hb hD
        have hb3 := low3 b o hb
        rw [wo_ne n1, upd_ne n1, upd_ne (ne_of_none hb3 zT)]
        exact hb3
    · refine .inl ⟨⟨_, sq_of (nd3.tg hr'), by rw [List.length_map]; omega⟩, acc3, hacc3, ?_, ex3⟩
      rw [prsTo_succ hs]
      rw [List.take_of_length_le (by omega)] at hdt3
      exact hdt3
  · refine .inl ⟨⟨_, sq_of (low _ _ hL), by rw [List.length_map]; omega⟩, q D acc H2 (fresh_back e1 hD) (e1.trans low) hacc ?_⟩
    have ei : prsTo g i = prs g := by
      unfold prsTo prs
      rw [List.take_of_length_le (by omega)]
    rw [ei] at hdt
    exact hdt
end
end Cr
/-! graphs of needs: made, recorded, all of a source deleted -/
namespace Cr
open PySem PySem.Spec PyProof.Rows L2 Evl
abbrev sNInit : Stmt := inClass (topS 18) 0
abbrev sNRec : Stmt := inClass (topS 18) 7
theorem scNInit : FnScope ["self"] ["self"] (defScope sNInit) := ⟨rfl, rfl, rfl, by decide +kernel, rfl, by decide +kernel, by decide +kernel⟩
theorem scNRec : FnScope ["self", "source", "target"] ["self", "source", "target"] (defScope sNRec) := ⟨rfl, rfl, rfl, by decide +kernel, rfl, by decide +kernel, by decide +kernel⟩
def spNInit (C : Addr) : Sp := fun vs H Q _ => ∃ x dx, vs = [.ref x] ∧ H x = some (.ins C dx []) ∧ ∀ dd H', H dd = none → dd ≠ x → H' = upd (upd H dd (.dK [])) x (.ins C dx [("needed", .ref dd)]) → Q .non H'
/-- recorded: new or not, or a value that is no name -/
def spRecord (C CN : Addr) (n : Nat) : Sp := fun vs H Q E => ∃ x v u d e A U g, vs = [.ref x, v, u] ∧ NdAt C H x A U g ∧ Dt H v d ∧ Dt H u e ∧ sm d = true ∧ sm e = true ∧ cpyTo n d ∧ cpyTo n e ∧
  (isName d = false → ∀ dx H', Rsd1 H H' dx "value" d → E (.ref CN) (some dx) H') ∧ (isName d = true → isName e = false → ∀ dx H', Rsd1 H H' dx "value" e → E (.ref CN) (some dx) H') ∧
  (isName d = true → isName e = true → ∃ s t, d = .str s ∧ e = .str t ∧ s ∈ U ∧ t ∈ U ∧ (t ∈ tgS g s → ∀ H', Ex H H' → Q (.bl false) H') ∧
    (t ∉ tgS g s → ∀ l H', H l = none → But [A.dd] H H' → NdAt C H' x A U (putG g ⟨s, l, srtS (tgS g s ++ [t])⟩) → Q (.bl true) H'))
def dropG (g : List Row) (s : Str) : List Row := g.filter fun r => decide (r.s ≠ s)
theorem dropK_row (g : List Row) (s : Str) : dropK (g.map kvR) (Sum.inr s) = (dropG g s).map kvR := by
  unfold dropK dropG
  rw [List.filter_map]
  congr 1
  refine List.filter_congr fun r _ => ?_
  show decide ((Sum.inr r.s : Key) ≠ Sum.inr s) = decide (r.s ≠ s)
  exact decide_eq_decide.mpr ⟨fun h e => h (by rw [e]), fun h e => h (Sum.inr.inj e)⟩
theorem drop_ok {U : List Str} {g : List Row} (h : GOk U g) (s : Str) : GOk U (dropG g s) := by
  have m : ∀ {r : Row}, r ∈ dropG g s → r ∈ g := fun hr => (List.mem_filter.mp hr).1
  exact ⟨h.un, h.uf, List.Nodup.sublist (List.Sublist.map _ List.filter_sublist) h.keys, List.Nodup.sublist (List.Sublist.map _ List.filter_sublist) h.ads, fun r hr => h.nm r (m hr), fun r hr => h.ne r (m hr), fun r hr => h.up r (m hr), fun r hr => h.tn r (m hr)⟩
theorem rowOf_drop {g : List Row} {s : Str} (s' : Str) : rowOf (dropG g s) s' = if s' = s then none else rowOf g s' := by
  unfold rowOf dropG
  rw [List.find?_filter]
  by_cases h : s' = s
  · rw [if_pos h, List.find?_eq_none]
    intro r _ z
    rw [decide_eq_true_eq] at z
    obtain ⟨z1, z2⟩ := z
    have a := of_decide_eq_true z1
    have b := of_decide_eq_true z2
    exact a (b.trans h)
  · rw [if_neg h]
    congr 1
    funext r
    by_cases e : r.s = s'
    · rw [decide_eq_true e]
      refine decide_eq_true ⟨decide_eq_true fun z => h (e.symm.trans z), ?_⟩
      first | rfl | exact decide_eq_true e
    · rw [decide_eq_false e]
      exact decide_eq_false fun z => absurd z.2 Bool.false_ne_true
theorem tgS_drop {g : List Row} {s : Str} (s' : Str) : tgS (dropG g s) s' = if s' = s then [] else tgS g s' := by
  unfold tgS
  rw [rowOf_drop]
  by_cases h : s' = s
  · rw [if_pos h, if_pos h]
  · rw [if_neg h, if_neg h]
def spDelAll (C : Addr) : Sp := fun vs H Q _ => ∃ x v d A U g, vs = [.ref x, v] ∧ NdAt C H x A U g ∧ Dt H v d ∧ sm d = true ∧ (tgD g d = [] → ∀ H', Ex H H' → Q (.int 0) H') ∧
  (∀ s, d = .str s → tgS g s ≠ [] → ∀ H', But [A.dd] H H' → NdAt C H' x A U (dropG g s) → Q (.int ((tgS g s).length : Int)) H')
theorem srt_new {ts : List Str} {t : Str} (h : ts.Pairwise ltS) (n : t ∉ ts) : (srtS (ts ++ [t])).Pairwise ltS := srtS_lt (List.nodup_append.mpr ⟨rise_nodup h, List.pairwise_singleton _ _, fun a ha b hb e => n (by rw [List.mem_singleton.mp hb] at e; exact e ▸ ha)⟩)
section
variable {P : Program} {w : World} {K : PySem.W.Frag} {mg : Str → Option Value} {base : Heap}
theorem ok_ninit {f C : Addr} {fd : FuncData} {k : Nat} (F : Fun K "__init__" "Needs.__init__" sNInit f fd) (T : NdC K mg C) : FnOk P w K mg base CX0 (k + 1) f fd ["self"] (spNInit C) := by
  refine F.ok scNInit (fun vs H Q E h => by obtain ⟨_, _, rfl, _⟩ := h; rfl) (fun cdv A outer s H vs Q E hr h => ?_)
  obtain ⟨x, dx, rfl, hx, q⟩ := h
  refine ⟨_, pss_one (ps_fld (pv 0) pe_dnewK rfl), ?_⟩
  refine fun dd zd => ?_
  have n : dd ≠ x := fun e => by rw [e, hx] at zd; cases zd
  exact ⟨.ref x, rfl, x, C, dx, [], rfl, by rw [upd_ne n.symm]; exact hx, T.cl, T.nN, by show 0 < 1000; decide, q dd _ zd n rfl⟩
theorem ok_record {f C CN : Addr} {fd : FuncData} {k n : Nat} (F : Fun K "record" "Needs.record" sNRec f fd) (B : Blt mg) (T : NdC K mg C) (h0 : HasE P w K mg base k "check_name" ["value"] (spCheckN CN n)) (h1 : HasO P w K mg base k "bare_word" ["word"] spBareW) (h2 : HasM P w K mg base CX0 k C "targets" ["self", "name"] (spTargets C)) (h3 : HasM P w K mg base CX0 k C "is_need" ["self", "source", "target"] (spIsNeed C)) :
    FnOk P w K mg base (L2.CX P w) (k + 1) f fd ["self", "source", "target"] (spRecord C CN n) := by
  obtain ⟨f0, d0, G0, b0, k0, g0⟩ := h0.ex
  obtain ⟨f1, d1, G1, b1, k1, g1⟩ := h1.ex
  obtain ⟨f2, d2, G2, b2, m2⟩ := h2.ex
  obtain ⟨f3, d3, G3, b3, m3⟩ := h3.ex
  refine F.okX scNRec (fun vs H Q E h => by obtain ⟨_, _, _, _, _, _, _, _, rfl, _⟩ := h; rfl) (fun cdv A outer s H vs Q E hr h => ?_)
  obtain ⟨x, v, u, d, e, A', U, g, rfl, nd, hd, he, hs, hs2, hc, hc2, q1, q2, q3⟩ := h
  have hu := hu_of hr
  refine ⟨_, pss_cons (ps_expr (pe_call (E := E) G0 hr (by rfl) g0 k0 b0 .nil (passes_call (takes_of rfl rfl rfl rfl) fun _ _ _ _ h => h) (pa_cons (pv 1) pa_nil)))
    (pss_cons (ps_expr (pe_call (E := E) G0 hr (by rfl) g0 k0 b0 .nil (passes_call (takes_of rfl rfl rfl rfl) fun _ _ _ _ h => h) (pa_cons (pv 2) pa_nil)))
    (pss_cons (ps_if (pt_val (pe_meth (E := E0) (pv 0) T.cl m3 G3 hr b3 .nil pass0 (pa_cons (pv 1) (pa_cons (pv 2) pa_nil)))) (pss_one (ps_ret pe_bl)) pss_nil)
    (pss_cons (ps_dput hu (pe_fld (pv 0) rfl) (pe_call (E := E0) G1 hr (by rfl) g1 k1 b1 .nil pass0 (pa_cons (pv 1) pa_nil)) (pe_callB cr_sortedS (by rfl) B.sorted bSorted (pa_cons (pe_op op_cat (pe_meth (E := E0) (pv 0) T.cl m2 G2 hr b2 .nil pass0 (pa_cons (pv 1) pa_nil)) (pe_lst (pa_cons (pe_call (E := E0) G1 hr (by rfl) g1 k1 b1 .nil pass0 (pa_cons (pv 2) pa_nil)) pa_nil))) pa_nil)) rfl)
    (pss_one (ps_ret pe_bl))))), ?_⟩
  refine ⟨v, rfl, v, d, rfl, hd, hs, hc, fun n1 H1 e1 => ?_, q1⟩
  refine ⟨u, rfl, u, e, rfl, Dt.ex e1 he, hs2, hc2, fun n2 H2 e2 => ?_, fun n2 dx H' r => q2 n1 n2 dx H' (r.back e1)⟩
  obtain ⟨s0, t0, rfl, rfl, sU, tU, qf, qt⟩ := q3 n1 n2
  cases hd with
  | str =>
  cases he with
  | str =>
  have e12 := e1.trans e2
  have nd2 := nd.ex e12
  refine q_when (b := isNd g (.str s0) (.str t0)) (et_B (ev_meth (ev_var rfl) nd2.ob rfl (ea_cons (ev_var rfl) (ea_cons (ev_var rfl) ea_nil)) (spv_isNeed nd2 (.str s0) (.str t0) hs hs2))) (fun hb H3 e3 => ?_) (fun hb H3 e3 => ?_)
  · exact s_ret ev_c fun H4 e4 => qf (of_decide_eq_true hb) H4 ((e12.trans e3).trans e4)
  have nt : t0 ∉ tgS g s0 := of_decide_eq_false hb
  have e13 := e12.trans e3
  have nd3 := nd.ex e13
  have lb : ∀ {z : Str}, isNameS z = true → z.length ≤ 1000 := fun {z} h => by
    have := sm_name h
    rw [sm] at this
    exact of_decide_eq_true this
  have tg : EvL (tMeth C "targets" (spTargets C) [] E0 (tVar 0) (tCons (tVar 1) tNil)) [some (.ref x), some (.str s0), some (.str t0)] H3 ((tgS g s0).map V.str) := el_meth (ev_var rfl) nd3.ob rfl (ea_cons (ev_var rfl) ea_nil) (spl_targets nd3 (.str s0) hs)
  have bw : ∀ {H' : Hp} {i : Nat} {z : Str}, isNameS z = true → ([some (V.ref x), some (.str s0), some (.str t0)] : L2.St)[i]? = some (some (.str z)) → Ev (tCall spBareW [] E0 (tCons (tVar i) tNil)) [some (.ref x), some (.str s0), some (.str t0)] H' (.str z) := fun hz hi => ev_call (ea_cons (ev_var hi) ea_nil) fun H1 e1 Q q E => ⟨_, rfl, lb hz, q⟩
  refine tg H3 (Ex.refl H3) _ fun L H4 zL e4 hL => ?_
  refine bw (H' := H4) (i := 2) (z := t0) n2 rfl H4 (Ex.refl H4) _ fun H5 e5 => ⟨by show 1 ≤ sizeLine; decide, fun M zM => ?_⟩
  have hL5 := (Ex.new (o := .lst [.str t0]) zM) _ _ (e5 _ _ hL)
  have few := nd.ok.fewT s0
  refine ⟨L, M, (tgS g s0).map V.str, [.str t0], rfl, rfl, hL5, upd_same, by rw [List.length_map, sizeLine_eq]; show (tgS g s0).length + 1 ≤ _; omega, fun Z zZ => ?_⟩
  refine ⟨Z, tgS g s0 ++ [t0], rfl, by rw [List.map_append]; exact sq_of upd_same, by rw [List.length_append, List.length_singleton]; omega, fun ys p hp hso zp => ?_⟩
  have e6 : Ex H3 (upd (upd (upd H5 M (.lst [.str t0])) Z (.lst ((tgS g s0).map V.str ++ [.str t0]))) p (.lst (ys.map V.str))) := (((e4.trans e5).trans (Ex.new zM)).trans (Ex.new zZ)).trans (Ex.new zp)
  have eys := sorted_is hp hso
  have pp : (upd (upd (upd H5 M (.lst [.str t0])) Z (.lst ((tgS g s0).map V.str ++ [.str t0]))) p (.lst (ys.map V.str))) p = some (.lst (ys.map V.str)) := upd_same
  have zp3 : H3 p = none := fresh_back (((e4.trans e5).trans (Ex.new zM)).trans (Ex.new zZ)) zp
  generalize (upd (upd (upd H5 M (.lst [.str t0])) Z (.lst ((tgS g s0).map V.str ++ [.str t0]))) p (.lst (ys.map V.str))) = H6 at e6 pp
  have nd6 := nd3.ex e6
  refine ⟨.ref x, rfl, x, C, A'.dx, _, .ref A'.dd, rfl, nd6.ob, T.cl, T.nN, rfl, ?_⟩
  refine bw (H' := H6) (i := 1) (z := s0) n1 rfl H6 (Ex.refl H6) _ fun H7 e7 => ?_
  have nd7 := nd6.ex e7
  refine ⟨A'.dd, _, rfl, DPut.k (k := Sum.inr s0) nd7.di ?_, ?_⟩
  · rw [List.length_map, sizeLine_eq]
    have := nd.ok.fewK
    omega
  have ek : putK (g.map kvR) (Sum.inr s0) (.ref p) = (putG g ⟨s0, p, ys⟩).map kvR := putK_row g ⟨s0, p, ys⟩
  rw [ek]
  have zp0 : H p = none := fresh_back e13 zp3
  have pa : ∀ r ∈ g, r.a ≠ p := fun r hr => ne_of_none (nd.ls r hr) zp0
  have px : x ≠ p := ne_of_none nd.ob zp0
  have pd : A'.dd ≠ p := ne_of_none nd.di zp0
  have e37 := (e13.trans e6).trans e7
  dsimp only
  refine s_ret ev_c fun H8 e8 => ?_
  refine qt nt p H8 zp0 (fun b o nb hb => e8 _ _ ?_) ?_
  · have nb' : b ≠ A'.dd := fun z => nb (by rw [z]; exact List.mem_cons_self)
    rw [upd_ne nb']
    exact e37 _ _ hb
  · rw [← eys]
    refine NdAt.ex ?_ e8
    refine ⟨by rw [upd_ne nd.xd]; exact nd7.ob, upd_same, fun r hr => ?_, ?_⟩
    · rcases mem_put hr with rfl | hr
      · rw [upd_ne pd.symm]
        exact e7 _ _ pp
      · rw [upd_ne (nd.da hr).symm]
        exact nd7.ls r hr
    · refine put_ok nd.ok sU (fun z => ?_) ?_ (fun t ht => ?_) pa
      · have l := hp.length_eq
        have z' : ys = [] := z
        rw [z', List.length_append, List.length_singleton] at l
        simp at l
      · show ys.Pairwise ltS
        rw [eys]
        exact srt_new (nd.ok.up' s0) nt
      · have m := hp.mem_iff.mp ht
        rcases List.mem_append.mp m with m | m
        · exact (nd.ok.tgU m).2
        · rw [List.mem_singleton.mp m]; exact tU
end
end Cr
/-! a dict made turn by turn over any walk -/
namespace Cr
open PySem PySem.Spec PyProof.Rows L2 Evl
theorem dc_it {J : It} {n : Nat} {G : Hp → Prop} {Y : Nat → Hp → V → Hp → Prop} (w : Walk J n G Y) {g : TG} {tt : TT} {tk tv : TE} {vs : List Nat} {σ : L2.St} {D : Addr} {Q : Hp → Prop} {H0 : Hp} (Pv : Nat → Hp → Prop) (z0 : Pv 0 H0) (keep : ∀ i H, i ≤ n → Pv i H → G H)
    (turn : ∀ i x H H', i < n → Pv i H → Y i H x H' → g x (wipe σ vs) H' fun σ2 H2 => wipe σ2 vs = wipe σ vs ∧ tt σ2 H2 fun b H3 => if b = true then tk σ2 H3 fun y H4 => tv σ2 H4 fun z H5 => ∃ kvs k, y = kV k ∧ H5 D = some (.dK kvs) ∧ kvs.length < sizeLine ∧ Pv (i + 1) (upd H5 D (.dK (putK kvs k z))) else Pv (i + 1) H3)
    (fin : ∀ H, Pv n H → Q H) : ∃ W : Nat → Nat → Hp → Prop, (∃ m, W 0 m H0) ∧ ∀ i m H, W i m H → (J.stop i H ∧ Q H) ∨ (J.go i H ∧ ∃ Nx : Hp → Prop, (∀ H', Nx H' → ∃ m', m' < m ∧ W (i + 1) m' H') ∧ ∀ x H', J.yld i H x H' → g x (wipe σ vs) H' fun σ2 H2 => wipe σ2 vs = wipe σ vs ∧ tt σ2 H2 fun b H3 =>
      if b = true then tk σ2 H3 fun y H4 => tv σ2 H4 fun z H5 => ∃ kvs k, y = kV k ∧ H5 D = some (.dK kvs) ∧ kvs.length < sizeLine ∧ Nx (upd H5 D (.dK (putK kvs k z))) else Nx H3) := by
  refine ⟨fun i m H => i + m = n ∧ Pv i H, ⟨n, by omega, z0⟩, ?_⟩
  rintro i m H ⟨e, p⟩
  cases m with
  | zero =>
    have ei : i = n := by omega
    subst ei
    exact .inl ⟨w.stops H (keep i H (Nat.le_refl _) p), fin H p⟩
  | succ m =>
    have lt : i < n := by omega
    have gi := keep i H (by omega) p
    exact .inr ⟨w.goes i H lt gi, Pv (i + 1), fun H' p' => ⟨m, by omega, by omega, p'⟩, fun x H' y => turn i x H H' lt p (w.yields i H x H' lt gi y)⟩
end Cr
/-! graphs of needs: a clone -/
namespace Cr
open PySem PySem.Spec PyProof.Rows L2 Evl
abbrev sNClone : Stmt := inClass (topS 18) 20
abbrev nNClone : List Str := ["self", "graph", "source"]
theorem scNClone : FnScope nNClone ["self"] (defScope sNClone) := ⟨rfl, rfl, rfl, by decide +kernel, rfl, by decide +kernel, by decide +kernel⟩
def stR (r : Row) : Str × List Str := (r.s, r.ts)
def spClone (C : Addr) : Sp := fun vs H Q _ => ∃ x A U g, vs = [.ref x] ∧ NdAt C H x A U g ∧ ∀ y A' g' H', H y = none → Ex H H' → NdAt C H' y A' U g' → H A'.dd = none → (∀ r ∈ g', H r.a = none) → g'.map stR = g.map stR → Q (.ref y) H'
theorem clone_ok {U : List Str} {g g' : List Row} (h : GOk U g) (e : g'.map stR = g.map stR) (na : (g'.map (·.a)).Nodup) : GOk U g' := by
  have m : ∀ r ∈ g', ∃ y ∈ g, r.s = y.s ∧ r.ts = y.ts := fun r hr => by
    have z := List.mem_map_of_mem (f := stR) hr
    rw [e] at z
    obtain ⟨y, hy, e'⟩ := List.mem_map.mp z
    exact ⟨y, hy, (congrArg Prod.fst e').symm, (congrArg Prod.snd e').symm⟩
  have ks : g'.map (·.s) = g.map (·.s) := by
    have z := congrArg (List.map Prod.fst) e
    rw [List.map_map, List.map_map] at z
    exact z
  refine ⟨h.un, h.uf, by rw [ks]; exact h.keys, na, fun r hr => ?_, fun r hr => ?_, fun r hr => ?_, fun r hr t ht => ?_⟩
  · obtain ⟨y, hy, a, b⟩ := m r hr; rw [a]; exact h.nm y hy
  · obtain ⟨y, hy, a, b⟩ := m r hr; rw [b]; exact h.ne y hy
  · obtain ⟨y, hy, a, b⟩ := m r hr; rw [b]; exact h.up y hy
  · obtain ⟨y, hy, a, b⟩ := m r hr; rw [b] at ht; exact h.tn y hy t ht
section
variable {P : Program} {w : World} {K : PySem.W.Frag} {mg : Str → Option Value} {base : Heap}
theorem ok_clone {f C : Addr} {fd : FuncData} {k : Nat} (F : Fun K "clone" "Needs.clone" sNClone f fd) (B : Blt mg) (T : NdC K mg C) (hk : 1 ≤ k) (h1 : ∃ f fd, Mk K C f ∧ FnOk P w K mg base CX0 (k - 1) f fd ["self"] (spNInit C) ∧ Binds K fd ["self"] []) : FnOk P w K mg base CX0 (k + 1) f fd ["self"] (spClone C) := by
  obtain ⟨f5, d5, M5, G5, b5⟩ := h1
  refine F.ok scNClone (fun vs H Q E h => by obtain ⟨_, _, _, _, rfl, _⟩ := h; rfl) (fun cdv A outer s H vs Q E hr h => ?_)
  obtain ⟨x, A', U, g, rfl, nd, q⟩ := h
  have hu := hu_of hr
  have hr1 := hr.mono (j := k - 1 + 1) (by omega)
  refine ⟨_, pss_cons (ps_set (i := 1) scNClone.nd rfl (.inl rfl) (pe_make0 (E := E0) M5 G5 hr1 (by rfl) T.at_ b5 .nil pass0))
    (pss_cons (ps_fld (pv 1) (pe_lock (pe_dc (own := [("source", 2)]) (g := gName 2) (tt := tYes) (tk := tVar 2) (tv := tCB (fun xs H Q => ∃ p ys, xs = [.ref p] ∧ (SqL K H p ys ∨ SqT K H p ys) ∧ ∀ l, H l = none → Q (.ref l) (upd H l (.lst ys))) (tCons (tDGet (tFld K (tVar 0) "needed") (tVar 2)) tNil)) rfl scNClone.nd (pi_keys (pe_fld (pv 0) rfl)) (blkOk_by (own := [("source", 2)]) (N := nNClone) (sc := defScope sNClone) (by decide +kernel))
      (fun _ _ _ _ _ => pg_name (i := 2) scNClone.nd rfl (Or.inl rfl)) (fun _ _ _ _ _ => pts_nil) (fun _ _ _ _ _ => pv 2) (fun _ _ _ _ _ => by exact pe_callTy call_list_of (by rfl) B.list bList (pa_cons (pe_dget hu (pe_fld (pv 0) rfl) (pv 2) (fun _ _ => rfl)) pa_nil)))) rfl)
    (pss_one (ps_ret (pv 1)))), ?_⟩
  refine fun y dy zy zdy nyd => ⟨y, dy, rfl, upd_same, fun dd2 H3 zdd ndx eH3 => ⟨rfl, ?_⟩⟩
  have zdd2 : H dd2 = none := by
    rw [upd_ne ndx] at zdd
    by_cases e : dd2 = dy
    · rw [e, upd_same] at zdd; cases zdd
    · rw [upd_ne e] at zdd; exact zdd
  have e23 : Ex H H3 := fun b o hb => by
    rw [eH3, upd_ne (ne_of_none hb zy), upd_ne (ne_of_none hb zdd2), upd_ne (ne_of_none hb zy), upd_ne (ne_of_none hb zdy)]
    exact hb
  have y3 : H3 y = some (.ins C dy [("needed", .ref dd2)]) := by rw [eH3, upd_same]
  have nd3 := nd.ex e23
  clear eH3
  show tSeq _ _ _ [some (.ref x), some (.ref y), none] H3
  refine ⟨A'.dd, .dK (g.map kvR), nd3.di, trivial, fun od => ?_⟩
  have lk : ∀ {c : Addr} {o : HO}, c ≠ A'.dd → H3 c = some o → (upd H3 A'.dd (.frz od (.dK (g.map kvR)))) c = some o := fun n h => by rw [upd_ne n]; exact h
  have ob3 := lk nd.xd nd3.ob
  have yd : y ≠ A'.dd := fun e => by have z := nd.di; rw [← e, zy] at z; cases z
  have y4 := lk yd y3
  have ls3 : ∀ r ∈ g, (upd H3 A'.dd (.frz od (.dK (g.map kvR)))) r.a = some (.lst (r.ts.map V.str)) := fun r hr => lk (nd.da hr).symm (nd3.ls r hr)
  have di3 : (upd H3 A'.dd (.frz od (.dK (g.map kvR)))) A'.dd = some (.frz od (.dK (g.map kvR))) := upd_same
  have bk3 : ∀ {c : Addr}, (upd H3 A'.dd (.frz od (.dK (g.map kvR)))) c = none → H c = none := fun {c} h => by
    cases hh : H c with
    | none => rfl
    | some o =>
      by_cases e : c = A'.dd
      · rw [e, di3] at h; cases h
      · rw [lk e (e23 _ _ hh)] at h; cases h
  have up3 : ∀ {H' : Hp}, Ex (upd H3 A'.dd (.frz od (.dK (g.map kvR)))) H' → Ex H (upd H' A'.dd (.dK (g.map kvR))) := fun {H'} e c o hc => by
    by_cases ec : c = A'.dd
    · rw [ec, upd_same]
      rw [ec, nd.di] at hc
      exact hc
    · rw [upd_ne ec]
      exact e _ _ (lk ec (e23 _ _ hc))
  generalize upd H3 A'.dd (.frz od (.dK (g.map kvR))) = HL at ob3 y4 ls3 di3 bk3 up3
  refine ⟨.ref x, rfl, x, C, A'.dx, _, .ref A'.dd, rfl, ob3, T.cl, T.nN, rfl, A'.dd, od, rfl, .inl ⟨g.map kvR, di3, fun D zD => ?_⟩⟩
  have few := nd.ok.fewK
  refine dc_it walk_keys (Q := fun H' => H' A'.dd = some (.frz od (.dK (g.map kvR))) ∧ _) (fun i H' => ∃ g', g'.map stR = (g.take i).map stR ∧ H' D = some (.dK (g'.map kvR)) ∧ (∀ r ∈ g', H' r.a = some (.lst (r.ts.map V.str)) ∧ HL r.a = none ∧ r.a ≠ D) ∧ (g'.map (·.a)).Nodup ∧ Ex HL H') ⟨[], rfl, upd_same, by simp, List.nodup_nil, Ex.new zD⟩ (fun i H' _ ⟨_, _, _, _, _, e⟩ => e _ _ di3) ?_ ?_
  · rintro i v H4 H4' hi ⟨g', em, hD, hrs, na, e4⟩ ⟨rfl, kk, vv, hkv, rfl⟩
    rw [List.length_map] at hi
    rw [List.getElem?_map, List.getElem?_eq_getElem hi] at hkv
    have hkv' : kvR g[i] = (kk, vv) := Option.some.inj hkv
    obtain ⟨rfl, rfl⟩ : Sum.inr g[i].s = kk ∧ V.ref g[i].a = vv := ⟨congrArg Prod.fst hkv', congrArg Prod.snd hkv'⟩
    have mem := List.getElem_mem hi
    have ro := rowOf_in nd.ok.keys mem
    have no : rowOf g' g[i].s = none := by
      cases z : rowOf g' g[i].s with
      | none => rfl
      | some r' =>
        exfalso
        obtain ⟨m1, m2⟩ := rowOf_mem z
        have m3 : g[i].s ∈ (g.take i).map (·.s) := by
          have z := congrArg (List.map Prod.fst) em
          rw [List.map_map, List.map_map] at z
          have z2 : g'.map (·.s) = (g.take i).map (·.s) := z
          rw [← z2, ← m2]
          exact List.mem_map_of_mem m1
        have nk := nd.ok.keys
        rw [← List.take_append_drop i g, List.map_append, List.nodup_append] at nk
        refine nk.2.2 _ m3 _ (List.mem_map_of_mem (f := (·.s)) (a := g[i]) ?_) rfl
        rw [List.mem_iff_getElem?]
        exact ⟨0, by rw [List.getElem?_drop, Nat.add_zero, List.getElem?_eq_getElem hi]⟩
    refine ⟨rfl, ?_⟩
    unfold tYes
    dsimp only
    rw [if_pos rfl]
    refine ⟨.str g[i].s, rfl, .ref x, rfl, x, C, A'.dx, _, .ref A'.dd, rfl, e4 _ _ ob3, T.cl, T.nN, rfl, .str g[i].s, rfl, A'.dd, .ref g[i].a, rfl, .inl ⟨g.map kvR, Sum.inr g[i].s, .inr ⟨od, e4 _ _ di3⟩, rfl, by rw [val_row, ro]; rfl⟩, g[i].a, g[i].ts.map V.str, rfl, .inl (sq_of (e4 _ _ (ls3 _ mem))), fun l zl => ?_⟩
    have nlD : D ≠ l := ne_of_none hD zl
    refine ⟨g'.map kvR, Sum.inr g[i].s, rfl, by rw [upd_ne nlD]; exact hD, ?_, g' ++ [⟨g[i].s, l, g[i].ts⟩], ?_, ?_, fun r hr => ?_, ?_, ?_⟩
    · have lg := congrArg List.length em
      rw [List.length_map, List.length_map, List.length_take] at lg
      rw [List.length_map, sizeLine_eq]
      omega
    · rw [List.map_append, em, List.take_add_one, List.getElem?_eq_getElem hi, List.map_append]
      rfl
    · rw [upd_same]
      have z := putK_row g' ⟨g[i].s, l, g[i].ts⟩
      have z2 : putG g' ⟨g[i].s, l, g[i].ts⟩ = g' ++ [⟨g[i].s, l, g[i].ts⟩] := by
        unfold putG
        rw [show rowOf g' (Row.mk g[i].s l g[i].ts).s = none from no]
        rfl
      rw [z2] at z
      exact congrArg (fun o => some (HO.dK o)) z
    · rcases List.mem_append.mp hr with hr | hr
      · obtain ⟨a1, a2, a3⟩ := hrs r hr
        refine ⟨?_, a2, a3⟩
        rw [upd_ne a3, upd_ne (ne_of_none a1 zl)]
        exact a1
      · rw [List.mem_singleton.mp hr]
        refine ⟨?_, fresh_back e4 zl, nlD.symm⟩
        rw [upd_ne nlD.symm]
        exact upd_same
    · rw [List.map_append, List.nodup_append]
      refine ⟨na, List.pairwise_singleton _ _, fun a ha b hb e => ?_⟩
      obtain ⟨r, hr, rfl⟩ := List.mem_map.mp ha
      rw [List.map_cons, List.map_nil, List.mem_singleton] at hb
      have z := (hrs r hr).1
      rw [e, hb, zl] at z
      cases z
    · exact Ex.mut (e4.trans (Ex.new zl)) zD
  · rintro H4 ⟨g', em, hD, hrs, na, e4⟩
    rw [List.length_map, List.take_length] at em
    refine ⟨e4 _ _ di3, ?_⟩
    have nDd : D ≠ A'.dd := fun e => by rw [e, di3] at zD; cases zD
    have nDy : D ≠ y := fun e => by rw [e, y4] at zD; cases zD
    refine ⟨.ref y, rfl, y, C, dy, _, rfl, by rw [upd_ne yd]; exact e4 _ _ y4, T.cl, T.nN, by show 1 < 1000; decide, ?_⟩
    have x4 := up3 e4
    refine ⟨.ref y, rfl, q y ⟨dy, D⟩ g' _ zy (fun c o hc => by rw [upd_ne (ne_of_none hc zy)]; exact x4 _ _ hc) ⟨upd_same, by rw [upd_ne nDy, upd_ne nDd]; exact hD, fun r hr => ?_, clone_ok nd.ok em na⟩ (bk3 zD) (fun r hr => bk3 (hrs r hr).2.1) em⟩
    obtain ⟨a1, a2, a3⟩ := hrs r hr
    have ny : r.a ≠ y := fun e => by rw [e, y4] at a2; cases a2
    have ndd : r.a ≠ A'.dd := fun e => by rw [e, di3] at a2; cases a2
    rw [upd_ne ny, upd_ne ndd]
    exact a1
end
end Cr
/-! graphs of needs: all of a source deleted -/
namespace Cr
open PySem PySem.Spec PyProof.Rows L2 Evl
abbrev sNDelA : Stmt := inClass (topS 18) 9
theorem scNDelA : FnScope ["self", "source", "count"] ["self", "source"] (defScope sNDelA) := ⟨rfl, rfl, rfl, by decide +kernel, rfl, by decide +kernel, by decide +kernel⟩
section
variable {P : Program} {w : World} {K : PySem.W.Frag} {mg : Str → Option Value} {base : Heap}
theorem ok_delAll {f C : Addr} {fd : FuncData} {k : Nat} (F : Fun K "delete_all" "Needs.delete_all" sNDelA f fd) (B : Blt mg) (T : NdC K mg C) (h2 : HasM P w K mg base CX0 k C "targets" ["self", "name"] (spTargets C)) : FnOk P w K mg base CX0 (k + 1) f fd ["self", "source"] (spDelAll C) := by
  obtain ⟨f2, d2, G2, b2, m2⟩ := h2.ex
  refine F.ok scNDelA (fun vs H Q E h => by obtain ⟨_, _, _, _, _, _, rfl, _⟩ := h; rfl) (fun cdv A outer s H vs Q E hr h => ?_)
  obtain ⟨x, v, d, A', U, g, rfl, nd, hd, hs, q0, q1⟩ := h
  have hu := hu_of hr
  refine ⟨_, pss_cons (ps_set (i := 2) scNDelA.nd rfl (.inl rfl) (pe_callB call_len_seq (by rfl) B.len bLen (pa_cons (pe_meth (E := E0) (pv 0) T.cl m2 G2 hr b2 .nil pass0 (pa_cons (pv 1) pa_nil)) pa_nil)))
    (pss_cons (ps_if (pt_cmpR op_gt (pv 2) pe_int (nomark _)) (pss_one (ps_ddel (pe_fld (pv 0) rfl) (pv 1))) pss_nil)
    (pss_one (ps_ret (pv 2)))), ?_⟩
  have tg : EvL (tMeth C "targets" (spTargets C) [] E0 (tVar 0) (tCons (tVar 1) tNil)) [some (.ref x), some v, none] H ((tgD g d).map V.str) := el_meth (ev_var rfl) nd.ob rfl (ea_cons (ev_var rfl) ea_nil) (spl_targets nd hd hs)
  refine q_asg (ev_lenN tg) fun H1 e1 => ?_
  rw [List.length_map]
  refine q_when (b := decide (((tgD g d).length : Int) > 0)) (et_test (ev_op (ev_var rfl) ev_c rv_I0)) (fun hb H2 e2 => ?_) (fun hb H2 e2 => ?_)
  · have hb' := of_decide_eq_true hb
    cases d with
    | str s0 =>
      cases hd with
      | str =>
      have ne : tgS g s0 ≠ [] := fun z => by
        have hb2 : ((tgS g s0).length : Int) > 0 := hb'
        rw [z] at hb2
        exact absurd hb2 (by decide)
      have nd2 := nd.ex (e1.trans e2)
      refine ⟨.ref x, rfl, x, C, A'.dx, _, .ref A'.dd, rfl, nd2.ob, T.cl, T.nN, rfl, .str s0, rfl, A'.dd, g.map kvR, Sum.inr s0, rfl, nd2.di, rfl, ?_, ?_⟩
      · rw [val_row, Option.isSome_map]
        cases hr : rowOf g s0 with
        | none => exact absurd (by unfold tgS; rw [hr]) ne
        | some r => rfl
      rw [dropK_row]
      refine s_ret (ev_var rfl) fun H3 e3 => q1 s0 rfl ne H3 (fun b o nb hb3 => e3 _ _ ?_) (NdAt.ex ⟨by rw [upd_ne nd.xd]; exact nd2.ob, upd_same, fun r hr => ?_, drop_ok nd.ok s0⟩ e3)
      · have nb' : b ≠ A'.dd := fun z => nb (by rw [z]; exact List.mem_cons_self)
        rw [upd_ne nb']
        exact (e1.trans e2) _ _ hb3
      · have hr' := (List.mem_filter.mp hr).1
        rw [upd_ne (nd.da hr').symm]
        exact nd2.ls r hr'
    | _ => exact absurd hb' (by show ¬ ((0 : Nat) : Int) > 0; decide)
  · have hb' := of_decide_eq_false hb
    have e0 : tgD g d = [] := List.length_eq_zero_iff.mp (by omega)
    refine s_ret (ev_var rfl) fun H3 e3 => ?_
    rw [e0]
    exact q0 e0 H3 ((e1.trans e2).trans e3)
end
end Cr
/-! paths from a name, the shortest first: the list that grows while it is walked -/
namespace Cr
open PySem PySem.Spec PyProof.Rows L2 Evl
theorem nodup_len : ∀ {ws us : List Str}, ws.Nodup → (∀ w ∈ ws, w ∈ us) → ws.length ≤ us.length
  | [], _, _, _ => Nat.zero_le _
  | w :: ws, us, nd, h => by
    have hw := h w (List.mem_cons_self ..)
    rw [List.nodup_cons] at nd
    have ih := nodup_len (us := us.erase w) nd.2 fun x hx => (List.mem_erase_of_ne (fun e : x = w => nd.1 (by rw [← e]; exact hx))).mpr (h x (List.mem_cons_of_mem _ hx))
    rw [List.length_erase_of_mem hw] at ih
    have : 0 < us.length := List.length_pos_of_mem hw
    rw [List.length_cons]
    omega
def lastP (p : List Str) : Str := p.getLastD ""
def lasts (q : List (List Str)) : List Str := q.map lastP
theorem lastP_app (p : List Str) (t : Str) : lastP (p ++ [t]) = t := by
  unfold lastP
  rw [List.getLastD_eq_getLast?, List.getLast?_append]
  rfl
theorem lastP_split {p : List Str} (h : p ≠ []) : p.dropLast ++ [lastP p] = p := by
  unfold lastP
  rw [List.getLastD_eq_getLast?, List.getLast?_eq_some_getLast h]
  exact List.dropLast_concat_getLast h
theorem lasts_app (a b : List (List Str)) : lasts (a ++ b) = lasts a ++ lasts b := List.map_append
/-- one target more -/
def ext1 (p : List Str) (q : List (List Str)) (t : Str) : List (List Str) := if t ∈ lasts q then q else q ++ [p ++ [t]]
def ext (ts : List Str) (p : List Str) (q : List (List Str)) : List (List Str) := ts.foldl (ext1 p) q
/-- when i of them have been walked -/
def runP (T : Str → List Str) (a : Str) : Nat → List (List Str)
  | 0 => [[a]]
  | i + 1 => match (runP T a i)[i]? with
    | some p => ext (T (lastP p)) p (runP T a i)
    | none => runP T a i
inductive Reach (T : Str → List Str) (a : Str) : Str → Prop
  | refl : Reach T a a
  | step {b t : Str} : Reach T a b → t ∈ T b → Reach T a t
theorem Reach.mono {T T' : Str → List Str} {a b : Str} (h : ∀ s t, t ∈ T s → t ∈ T' s) (r : Reach T a b) : Reach T' a b := by
  induction r with
  | refl => exact .refl
  | step _ m ih => exact .step ih (h _ _ m)
theorem ext1_pre (p : List Str) (q : List (List Str)) (t : Str) : q <+: ext1 p q t := by
  unfold ext1
  split
  · exact List.prefix_rfl
  · exact List.prefix_append _ _
theorem ext_pre (ts : List Str) (p : List Str) : ∀ q, q <+: ext ts p q := by
  induction ts with
  | nil => intro q; exact List.prefix_rfl
  | cons t ts ih => intro q; exact (ext1_pre p q t).trans (ih (ext1 p q t))
theorem lasts_pre {a b : List (List Str)} (h : a <+: b) : lasts a <+: lasts b := h.map _
theorem ext1_mem {p : List Str} {q : List (List Str)} {t : Str} {x : List Str} (h : x ∈ ext1 p q t) : x ∈ q ∨ x = p ++ [t] := by
  unfold ext1 at h
  split at h
  · exact .inl h
  · rcases List.mem_append.mp h with h | h
    · exact .inl h
    · exact .inr (List.mem_singleton.mp h)
theorem ext_mem {p x : List Str} : ∀ {ts : List Str} {q : List (List Str)}, x ∈ ext ts p q → x ∈ q ∨ ∃ t ∈ ts, x = p ++ [t]
  | [], q, h => .inl h
  | t :: ts, q, h => by
    rcases ext_mem (ts := ts) (q := ext1 p q t) h with h | ⟨u, hu, e⟩
    · rcases ext1_mem h with h | h
      · exact .inl h
      · exact .inr ⟨t, List.mem_cons_self, h⟩
    · exact .inr ⟨u, List.mem_cons_of_mem _ hu, e⟩
theorem ext1_nd {p : List Str} {q : List (List Str)} {t : Str} (h : (lasts q).Nodup) : (lasts (ext1 p q t)).Nodup := by
  unfold ext1
  split
  · exact h
  · rename_i n
    rw [lasts_app]
    refine List.nodup_append.mpr ⟨h, List.pairwise_singleton _ _, fun a ha b hb e => n ?_⟩
    have hb' : b = lastP (p ++ [t]) := List.mem_singleton.mp hb
    rw [lastP_app] at hb'
    rw [← hb', ← e]
    exact ha
theorem ext_nd {p : List Str} : ∀ {ts : List Str} {q : List (List Str)}, (lasts q).Nodup → (lasts (ext ts p q)).Nodup
  | [], _, h => h
  | _ :: ts, _, h => ext_nd (ts := ts) (ext1_nd h)
theorem ext1_has (p : List Str) (q : List (List Str)) (t : Str) : t ∈ lasts (ext1 p q t) := by
  unfold ext1
  split
  · assumption
  · rw [lasts_app]
    refine List.mem_append_right _ ?_
    show t ∈ [lastP (p ++ [t])]
    rw [lastP_app]
    exact List.mem_singleton.mpr rfl
theorem ext_has {p : List Str} {t : Str} : ∀ {ts : List Str} {q : List (List Str)}, t ∈ ts → t ∈ lasts (ext ts p q)
  | u :: ts, q, h => by
    rcases List.mem_cons.mp h with rfl | h
    · exact (lasts_pre (ext_pre ts p _)).subset (ext1_has p q _)
    · exact ext_has (ts := ts) h
theorem ext_take {ts : List Str} {p : List Str} {q : List (List Str)} {k : Nat} {t : Str} (h : ts[k]? = some t) : ext (ts.take (k + 1)) p q = ext1 p (ext (ts.take k) p q) t := by
  unfold ext
  rw [List.take_add_one, h, List.foldl_append]
  rfl
section
variable {T : Str → List Str} {a : Str}
theorem run_some {i : Nat} {p : List Str} (h : (runP T a i)[i]? = some p) : runP T a (i + 1) = ext (T (lastP p)) p (runP T a i) := by
  rw [runP, h]
theorem run_none {i : Nat} (h : (runP T a i).length ≤ i) : runP T a (i + 1) = runP T a i := by
  rw [runP, List.getElem?_eq_none h]
theorem run_pre1 (i : Nat) : runP T a i <+: runP T a (i + 1) := by
  rw [runP]
  split
  · exact ext_pre _ _ _
  · exact List.prefix_rfl
theorem run_pre {i j : Nat} (h : i ≤ j) : runP T a i <+: runP T a j := by
  induction j with
  | zero => rw [Nat.le_zero.mp h]; exact List.prefix_rfl
  | succ j ih =>
    by_cases e : i = j + 1
    · rw [e]; exact List.prefix_rfl
    · exact (ih (by omega)).trans (run_pre1 j)
theorem run_nd (i : Nat) : (lasts (runP T a i)).Nodup := by
  induction i with
  | zero => exact List.pairwise_singleton _ _
  | succ i ih =>
    rw [runP]
    split
    · exact ext_nd ih
    · exact ih
theorem run_ne {i : Nat} {p : List Str} (h : p ∈ runP T a i) : p ≠ [] := by
  induction i generalizing p with
  | zero =>
    rw [List.mem_singleton.mp h]
    exact List.cons_ne_nil _ _
  | succ i ih =>
    rw [runP] at h
    split at h
    · rcases ext_mem h with h | ⟨t, _, rfl⟩
      · exact ih h
      · simp
    · exact ih h
theorem run_len {i : Nat} {p : List Str} (h : p ∈ runP T a i) : p.length ≤ i + 1 := by
  induction i generalizing p with
  | zero =>
    rw [List.mem_singleton.mp h]
    exact Nat.le_refl _
  | succ i ih =>
    rw [runP] at h
    split at h
    · rename_i z hz
      rcases ext_mem h with h | ⟨t, _, rfl⟩
      · have := ih h; omega
      · have := ih (List.mem_of_getElem? hz)
        rw [List.length_append, List.length_singleton]
        omega
    · have := ih h; omega
theorem run_reach {i : Nat} {b : Str} (h : b ∈ lasts (runP T a i)) : Reach T a b := by
  induction i generalizing b with
  | zero =>
    have e : b = lastP [a] := List.mem_singleton.mp h
    rw [e]
    exact .refl
  | succ i ih =>
    rw [runP] at h
    split at h
    · rename_i p hp
      obtain ⟨x, hx, rfl⟩ := List.mem_map.mp h
      rcases ext_mem hx with hx | ⟨t, ht, rfl⟩
      · exact ih (List.mem_map_of_mem hx)
      · rw [lastP_app]
        exact .step (ih (List.mem_map_of_mem (List.mem_of_getElem? hp))) ht
    · exact ih h
theorem run_start (i : Nat) : a ∈ lasts (runP T a i) := (lasts_pre (run_pre (Nat.zero_le i))).subset (List.mem_singleton.mpr rfl)
theorem run_closed {i k : Nat} (hk : k < i) {p : List Str} (hp : (runP T a i)[k]? = some p) {t : Str} (ht : t ∈ T (lastP p)) : t ∈ lasts (runP T a i) := by
  induction i with
  | zero => omega
  | succ i ih =>
    by_cases e : k < (runP T a i).length
    · obtain ⟨z, hz⟩ := run_pre1 (T := T) (a := a) i
      have hp' : (runP T a i)[k]? = some p := by rw [← hz, List.getElem?_append_left e] at hp; exact hp
      by_cases ki : k = i
      · subst ki
        rw [run_some hp']
        exact ext_has ht
      · exact (lasts_pre (run_pre1 i)).subset (ih (by omega) hp')
    · rw [run_none (by omega)] at hp ⊢
      rw [List.getElem?_eq_none (by omega)] at hp
      cases hp
theorem run_stable {i : Nat} (h : (runP T a i).length ≤ i) (j : Nat) : runP T a (i + j) = runP T a i := by
  induction j with
  | zero => rfl
  | succ j ih =>
    rw [← Nat.add_assoc, run_none (by rw [ih]; omega), ih]
/-- at the end: just what can be reached -/
theorem run_done {i : Nat} (h : (runP T a i).length ≤ i) {b : Str} : b ∈ lasts (runP T a i) ↔ Reach T a b := by
  refine ⟨run_reach, fun r => ?_⟩
  induction r with
  | refl => exact run_start i
  | step _ m ih =>
    obtain ⟨p, hp, rfl⟩ := List.mem_map.mp ih
    obtain ⟨k, hk, e⟩ := List.mem_iff_getElem.mp hp
    exact run_closed (k := k) (by omega) (by rw [List.getElem?_eq_getElem hk, e]) m
/-- all paths, the shortest first -/
def pathsP (T : Str → List Str) (a : Str) : List (List Str) := runP T a 64
theorem run_few {U : List Str} (hT : ∀ s t, t ∈ T s → t ∈ U) (hU : U.length ≤ 62) (i : Nat) : (runP T a i).length ≤ 63 := by
  have : (lasts (runP T a i)).length ≤ (a :: U).length := nodup_len (run_nd i) fun b hb => by
    cases run_reach hb with
    | refl => exact List.mem_cons_self
    | step _ m => exact List.mem_cons_of_mem _ (hT _ _ m)
  unfold lasts at this
  rw [List.length_map, List.length_cons] at this
  omega
theorem run_is {U : List Str} (hT : ∀ s t, t ∈ T s → t ∈ U) (hU : U.length ≤ 62) {i : Nat} (h : (runP T a i).length ≤ i) : runP T a i = pathsP T a := by
  unfold pathsP
  by_cases e : i ≤ 64
  · have := run_stable h (64 - i)
    rw [show i + (64 - i) = 64 by omega] at this
    exact this.symm
  · have := run_stable (T := T) (a := a) (i := 64) (by have := run_few (a := a) hT hU 64; omega) (i - 64)
    rw [show 64 + (i - 64) = i by omega] at this
    exact this
theorem paths_done {U : List Str} (hT : ∀ s t, t ∈ T s → t ∈ U) (hU : U.length ≤ 62) {b : Str} : b ∈ lasts (pathsP T a) ↔ Reach T a b :=
  run_done (i := 64) (by have := run_few (a := a) hT hU 64; omega)
end
end Cr
/-! list.remove of a text -/
/-! graphs of needs: a need deleted -/
/-! registries: how one stands in the heap -/
namespace Cr
open PySem PySem.Spec PyProof.Rows L2 Evl
/-! ### exported values: a dict for each module -/
abbrev XRows := List (Str × (Addr × Ints))
def xAd (r : Str × (Addr × Ints)) : Addr := r.2.1
def kvX (xs : XRows) : List (Key × V) := xs.map fun r => (.inr r.1, .ref r.2.1)
def kvInt (e : Ints) : List (Key × V) := e.map fun r => (.inr r.1, .int r.2)
/-- chains: a list for each failed module -/
abbrev CRows := List (Str × (Addr × List Str))
def cAd (r : Str × (Addr × List Str)) : Addr := r.2.1
def kvCh (xs : CRows) : List (Key × V) := xs.map fun r => (.inr r.1, .ref r.2.1)
def kvSt (st : List (Str × Str)) : List (Key × V) := st.map fun r => (.inr r.1, .str r.2)
def kvHd (hd : List Str) : List (Key × V) := hd.map fun n => (.inr n, .bl true)
def states5 : List Str := ["new", "running", "done", "ready", "failed"]
structure GA where
  x : Addr
  a : NdA
structure RgA where
  dx : Addr
  aS : Addr
  aX : Addr
  aC : Addr
  aH : Addr
  gN : GA
  gE : GA
  gA : GA
structure Rg where
  st : List (Str × Str)
  ex : XRows
  ch : CRows
  hd : List Str
  g : List Row
  ge : List Row
  ga : List Row
def flR (A : RgA) : List (Str × V) := [("states", .ref A.aS), ("exported", .ref A.aX), ("chains", .ref A.aC), ("held", .ref A.aH), ("graph", .ref A.gN.x), ("graph_ever", .ref A.gE.x), ("accesses", .ref A.gA.x)]
theorem flR_S (A : RgA) : (flR A).lookup ("states" : Str) = some (.ref A.aS) := by rfl
theorem flR_X (A : RgA) : (flR A).lookup ("exported" : Str) = some (.ref A.aX) := by rfl
theorem flR_C (A : RgA) : (flR A).lookup ("chains" : Str) = some (.ref A.aC) := by rfl
theorem flR_H (A : RgA) : (flR A).lookup ("held" : Str) = some (.ref A.aH) := by rfl
theorem flR_N (A : RgA) : (flR A).lookup ("graph" : Str) = some (.ref A.gN.x) := by rfl
theorem flR_E (A : RgA) : (flR A).lookup ("graph_ever" : Str) = some (.ref A.gE.x) := by rfl
theorem flR_A (A : RgA) : (flR A).lookup ("accesses" : Str) = some (.ref A.gA.x) := by rfl
def ownG (G : GA) (g : List Row) : List Addr := G.a.dd :: g.map (·.a)
/-- what of the heap is the registry's own, part by part -/
def segR (A : RgA) (R : Rg) : Nat → List Addr
  | 0 => [A.aS]
  | 1 => A.aX :: R.ex.map xAd
  | 2 => A.aC :: R.ch.map cAd
  | 3 => [A.aH]
  | 4 => ownG A.gN R.g
  | 5 => ownG A.gE R.ge
  | 6 => ownG A.gA R.ga
  | _ => []
def ownR (A : RgA) (R : Rg) : List Addr := (List.range 7).flatMap (segR A R)
theorem mem_ownR {A : RgA} {R : Rg} {a : Addr} : a ∈ ownR A R ↔ ∃ i, a ∈ segR A R i := by
  unfold ownR
  rw [List.mem_flatMap]
  constructor
  · rintro ⟨i, _, h⟩
    exact ⟨i, h⟩
  · rintro ⟨i, h⟩
    by_cases hi : i < 7
    · exact ⟨i, List.mem_range.mpr hi, h⟩
    · match i, hi, h with
      | 0, hi, _ | 1, hi, _ | 2, hi, _ | 3, hi, _ | 4, hi, _ | 5, hi, _ | 6, hi, _ => exact absurd (by decide) hi
      | n + 7, _, h => exact nomatch h
/-- what is true of the values alone -/
structure WfR (U : List Str) (R : Rg) : Prop where
  un : ∀ x ∈ U, isNameS x = true
  up : U.Pairwise ltS
  u1 : 1 ≤ U.length
  u40 : U.length ≤ 40
  st : R.st.map (·.1) = U
  sv : ∀ r ∈ R.st, r.2 ∈ states5
  ex : R.ex.map (·.1) = U
  xi : ∀ r ∈ R.ex, (r.2.2.map (·.1)).Nodup
  cn : (R.ch.map (·.1)).Nodup
  cu : ∀ n ∈ R.ch.map (·.1), n ∈ U
  hn : R.hd.Nodup
  hu : ∀ n ∈ R.hd, n ∈ U
structure RgAt (C CG : Addr) (HB H : Hp) (x : Addr) (A : RgA) (U : List Str) (R : Rg) : Prop where
  ob : H x = some (.ins C A.dx (flR A))
  hS : H A.aS = some (.dK (kvSt R.st))
  hX : H A.aX = some (.dK (kvX R.ex))
  hXi : ∀ r ∈ R.ex, H r.2.1 = some (.dK (kvInt r.2.2))
  hC : H A.aC = some (.dK (kvCh R.ch))
  hCi : ∀ r ∈ R.ch, H r.2.1 = some (.lst (r.2.2.map V.str))
  hH : H A.aH = some (.dK (kvHd R.hd))
  nN : NdAt CG H A.gN.x A.gN.a U R.g
  nE : NdAt CG H A.gE.x A.gE.a U R.ge
  nA : NdAt CG H A.gA.x A.gA.a U R.ga
  nd : ∀ i j a, a ∈ segR A R i → a ∈ segR A R j → i = j
  nn : ∀ i, (segR A R i).Nodup
  nb : ∀ a ∈ ownR A R, HB a = none
  bx : Ex HB H
  wf : WfR U R
section
variable {C CG x : Addr} {HB H H' : Hp} {A : RgA} {U : List Str} {R : Rg}
theorem RgAt.ex (h : RgAt C CG HB H x A U R) (e : Ex H H') : RgAt C CG HB H' x A U R :=
  ⟨e _ _ h.ob, e _ _ h.hS, e _ _ h.hX, fun r hr => e _ _ (h.hXi r hr), e _ _ h.hC, fun r hr => e _ _ (h.hCi r hr), e _ _ h.hH, h.nN.ex e, h.nE.ex e, h.nA.ex e, h.nd, h.nn, h.nb, h.bx.trans e, h.wf⟩
theorem nd_some {G : GA} {g : List Row} (n : NdAt CG H G.x G.a U g) : ∀ a ∈ ownG G g, ∃ o, H a = some o ∧ (∀ ys, o ≠ .tup ys) ∧ (∀ C dx fs, o ≠ .ins C dx fs) ∧ (∀ g, o ≠ .ext g) := fun a ha => by
  rcases List.mem_cons.mp ha with rfl | ha
  · exact ⟨_, n.di, fun ys z => (nomatch z), fun C dx fs z => (nomatch z), fun g z => (nomatch z)⟩
  · obtain ⟨r, hr, rfl⟩ := List.mem_map.mp ha
    exact ⟨_, n.ls r hr, fun ys z => (nomatch z), fun C dx fs z => (nomatch z), fun g z => (nomatch z)⟩
theorem RgAt.seg_some (h : RgAt C CG HB H x A U R) : ∀ i, ∀ a ∈ segR A R i, ∃ o, H a = some o ∧ (∀ ys, o ≠ .tup ys) ∧ (∀ C dx fs, o ≠ .ins C dx fs) ∧ (∀ g, o ≠ .ext g) := fun i a ha => by
  match i, ha with
  | 0, ha =>
    rw [List.mem_singleton.mp ha]
    exact ⟨_, h.hS, fun ys z => (nomatch z), fun C dx fs z => (nomatch z), fun g z => (nomatch z)⟩
  | 1, ha =>
    rcases List.mem_cons.mp ha with rfl | ha
    · exact ⟨_, h.hX, fun ys z => (nomatch z), fun C dx fs z => (nomatch z), fun g z => (nomatch z)⟩
    · obtain ⟨r, hr, rfl⟩ := List.mem_map.mp ha
      exact ⟨_, h.hXi r hr, fun ys z => (nomatch z), fun C dx fs z => (nomatch z), fun g z => (nomatch z)⟩
  | 2, ha =>
    rcases List.mem_cons.mp ha with rfl | ha
    · exact ⟨_, h.hC, fun ys z => (nomatch z), fun C dx fs z => (nomatch z), fun g z => (nomatch z)⟩
    · obtain ⟨r, hr, rfl⟩ := List.mem_map.mp ha
      exact ⟨_, h.hCi r hr, fun ys z => (nomatch z), fun C dx fs z => (nomatch z), fun g z => (nomatch z)⟩
  | 3, ha =>
    rw [List.mem_singleton.mp ha]
    exact ⟨_, h.hH, fun ys z => (nomatch z), fun C dx fs z => (nomatch z), fun g z => (nomatch z)⟩
  | 4, ha => exact nd_some h.nN a ha
  | 5, ha => exact nd_some h.nE a ha
  | 6, ha => exact nd_some h.nA a ha
  | n + 7, ha => exact nomatch ha
theorem RgAt.own_some (h : RgAt C CG HB H x A U R) {a : Addr} (ha : a ∈ ownR A R) : ∃ o, H a = some o ∧ (∀ ys, o ≠ .tup ys) ∧ (∀ C dx fs, o ≠ .ins C dx fs) ∧ (∀ g, o ≠ .ext g) := by
  obtain ⟨i, hi⟩ := mem_ownR.mp ha
  exact h.seg_some i a hi
theorem RgAt.ins_no (h : RgAt C CG HB H x A U R) {a D dy : Addr} {fs : List (Str × V)} (ha : H a = some (.ins D dy fs)) : a ∉ ownR A R := fun z => by
  obtain ⟨o, h1, _, h3, _⟩ := h.own_some z
  rw [ha] at h1
  cases h1
  exact h3 _ _ _ rfl
theorem RgAt.tup_no (h : RgAt C CG HB H x A U R) {a : Addr} {ys : List V} (ha : H a = some (.tup ys)) : a ∉ ownR A R := fun z => by
  obtain ⟨o, h1, h2, _⟩ := h.own_some z
  rw [ha] at h1
  cases h1
  exact h2 _ rfl
theorem RgAt.tps (h : RgAt C CG HB H x A U R) (b : But (ownR A R) H H') : Tps H H' := tps_own b fun a ha ys z => (h.tup_no z) ha
/-- parts of the list l, in another part than i -/
theorem RgAt.off (h : RgAt C CG HB H x A U R) {i j : Nat} {l : List Addr} (hl : ∀ a ∈ l, a ∈ segR A R i) (ne : j ≠ i) : ∀ a ∈ segR A R j, a ∉ l := fun a ha z => ne (h.nd j i a ha (hl a z))
theorem RgAt.off_ins (h : RgAt C CG HB H x A U R) {i : Nat} {l : List Addr} (hl : ∀ a ∈ l, a ∈ segR A R i) {a D dy : Addr} {fs : List (Str × V)} (ha : H a = some (.ins D dy fs)) : a ∉ l := fun z => h.ins_no ha (mem_ownR.mpr ⟨i, hl a z⟩)
theorem nd_but {G : GA} {g : List Row} {l : List Addr} (n : NdAt CG H G.x G.a U g) (b : But l H H') (h1 : G.x ∉ l) (h2 : ∀ a ∈ ownG G g, a ∉ l) : NdAt CG H' G.x G.a U g :=
  n.but b h1 (h2 _ List.mem_cons_self) fun r hr => h2 _ (List.mem_cons_of_mem _ (List.mem_map_of_mem hr))
/-- the places of a changed registry -/
theorem seg_nd {R' : Rg} {i : Nat} (h : RgAt C CG HB H x A U R) (same : ∀ j, j ≠ i → segR A R' j = segR A R j) (new : ∀ a ∈ segR A R' i, a ∈ segR A R i ∨ H a = none) : ∀ j k a, a ∈ segR A R' j → a ∈ segR A R' k → j = k := by
  have one : ∀ {k : Nat} {a : Addr}, k ≠ i → a ∈ segR A R' i → a ∈ segR A R' k → False := fun {k a} ne h1 h2 => by
    rw [same k ne] at h2
    rcases new a h1 with z | z
    · exact ne (h.nd k i a h2 z)
    · obtain ⟨o, h3, _⟩ := h.seg_some k a h2
      rw [z] at h3
      cases h3
  intro j k a h1 h2
  by_cases e1 : j = i
  · subst e1
    by_cases e2 : k = j
    · exact e2.symm
    · exact (one e2 h1 h2).elim
  · by_cases e2 : k = i
    · subst e2
      exact (one e1 h2 h1).elim
    · rw [same j e1] at h1
      rw [same k e2] at h2
      exact h.nd j k a h1 h2
theorem seg_new {R' : Rg} {i : Nat} (same : ∀ j, j ≠ i → segR A R' j = segR A R j) (new : ∀ a ∈ segR A R' i, a ∈ segR A R i ∨ H a = none) : ∀ a ∈ ownR A R', a ∈ ownR A R ∨ H a = none := fun a ha => by
  obtain ⟨j, hj⟩ := mem_ownR.mp ha
  by_cases e : j = i
  · subst e
    exact (new a hj).imp (fun z => mem_ownR.mpr ⟨j, z⟩) id
  · rw [same j e] at hj
    exact .inl (mem_ownR.mpr ⟨j, hj⟩)
theorem seg_nb {R' : Rg} (h : RgAt C CG HB H x A U R) (new : ∀ a ∈ ownR A R', a ∈ ownR A R ∨ H a = none) : ∀ a ∈ ownR A R', HB a = none := fun a ha => (new a ha).elim (h.nb a) fun z => fresh_back h.bx z
theorem seg_bx {l : List Addr} {i : Nat} (h : RgAt C CG HB H x A U R) (b : But l H H') (hl : ∀ a ∈ l, a ∈ segR A R i) : Ex HB H' := fun a o z => b a o (fun m => by
  rw [h.nb a (mem_ownR.mpr ⟨i, hl a m⟩)] at z
  cases z) (h.bx a o z)
end
end Cr
/-! registries: one part changes -/
namespace Cr
open PySem PySem.Spec PyProof.Rows L2 Evl
section
variable {C CG x : Addr} {HB H H' : Hp} {A : RgA} {U : List Str} {R R' : Rg}
theorem RgAt.chg {i : Nat} {l : List Addr} (h : RgAt C CG HB H x A U R) (b : But l H H') (hl : ∀ a ∈ l, a ∈ segR A R i) (new : ∀ a ∈ segR A R' i, a ∈ segR A R i ∨ H a = none) (nn' : (segR A R' i).Nodup) (wf' : WfR U R')
    (e0 : i ≠ 0 → R'.st = R.st) (e1 : i ≠ 1 → R'.ex = R.ex) (e2 : i ≠ 2 → R'.ch = R.ch) (e3 : i ≠ 3 → R'.hd = R.hd) (e4 : i ≠ 4 → R'.g = R.g) (e5 : i ≠ 5 → R'.ge = R.ge) (e6 : i ≠ 6 → R'.ga = R.ga)
    (p0 : i = 0 → H' A.aS = some (.dK (kvSt R'.st))) (p1 : i = 1 → H' A.aX = some (.dK (kvX R'.ex)) ∧ ∀ r ∈ R'.ex, H' r.2.1 = some (.dK (kvInt r.2.2))) (p2 : i = 2 → H' A.aC = some (.dK (kvCh R'.ch)) ∧ ∀ r ∈ R'.ch, H' r.2.1 = some (.lst (r.2.2.map V.str)))
    (p3 : i = 3 → H' A.aH = some (.dK (kvHd R'.hd))) (p4 : i = 4 → NdAt CG H' A.gN.x A.gN.a U R'.g) (p5 : i = 5 → NdAt CG H' A.gE.x A.gE.a U R'.ge) (p6 : i = 6 → NdAt CG H' A.gA.x A.gA.a U R'.ga) :
    RgAt C CG HB H' x A U R' ∧ But (ownR A R) H H' ∧ ∀ a ∈ ownR A R', a ∈ ownR A R ∨ H a = none := by
  have same : ∀ j, j ≠ i → segR A R' j = segR A R j := fun j hj => by
    match j, hj with
    | 0, _ => rfl
    | 1, hj => show A.aX :: R'.ex.map xAd = _; rw [e1 hj.symm]; rfl
    | 2, hj => show A.aC :: R'.ch.map cAd = _; rw [e2 hj.symm]; rfl
    | 3, _ => rfl
    | 4, hj => show ownG A.gN R'.g = _; rw [e4 hj.symm]; rfl
    | 5, hj => show ownG A.gE R'.ge = _; rw [e5 hj.symm]; rfl
    | 6, hj => show ownG A.gA R'.ga = _; rw [e6 hj.symm]; rfl
    | n + 7, _ => rfl
  have nw := seg_new same new
  refine ⟨⟨b _ _ (h.off_ins hl h.ob) h.ob, ?_, ?_, ?_, ?_, ?_, ?_, ?_, ?_, ?_, seg_nd h same new, fun j => ?_, seg_nb h nw, seg_bx h b hl, wf'⟩, b.mono fun a ha => mem_ownR.mpr ⟨i, hl a ha⟩, nw⟩
  · by_cases e : i = 0
    · exact p0 e
    · rw [e0 e]
      exact b _ _ (h.off hl (j := 0) (fun z => e z.symm) _ (by show A.aS ∈ [A.aS]; simp)) h.hS
  · by_cases e : i = 1
    · exact (p1 e).1
    · rw [e1 e]
      exact b _ _ (h.off hl (j := 1) (fun z => e z.symm) _ List.mem_cons_self) h.hX
  · by_cases e : i = 1
    · exact (p1 e).2
    · rw [e1 e]
      exact fun r hr => b _ _ (h.off hl (j := 1) (fun z => e z.symm) _ (List.mem_cons_of_mem _ (List.mem_map_of_mem (f := xAd) hr))) (h.hXi r hr)
  · by_cases e : i = 2
    · exact (p2 e).1
    · rw [e2 e]
      exact b _ _ (h.off hl (j := 2) (fun z => e z.symm) _ List.mem_cons_self) h.hC
  · by_cases e : i = 2
    · exact (p2 e).2
    · rw [e2 e]
      exact fun r hr => b _ _ (h.off hl (j := 2) (fun z => e z.symm) _ (List.mem_cons_of_mem _ (List.mem_map_of_mem (f := cAd) hr))) (h.hCi r hr)
  · by_cases e : i = 3
    · exact p3 e
    · rw [e3 e]
      exact b _ _ (h.off hl (j := 3) (fun z => e z.symm) _ (by show A.aH ∈ [A.aH]; simp)) h.hH
  · by_cases e : i = 4
    · exact p4 e
    · rw [e4 e]
      exact nd_but h.nN b (h.off_ins hl h.nN.ob) (h.off hl (j := 4) fun z => e z.symm)
  · by_cases e : i = 5
    · exact p5 e
    · rw [e5 e]
      exact nd_but h.nE b (h.off_ins hl h.nE.ob) (h.off hl (j := 5) fun z => e z.symm)
  · by_cases e : i = 6
    · exact p6 e
    · rw [e6 e]
      exact nd_but h.nA b (h.off_ins hl h.nA.ob) (h.off hl (j := 6) fun z => e z.symm)
  · by_cases e : j = i
    · rw [e]
      exact nn'
    · rw [same j e]
      exact h.nn j
/-- what a change leaves: the registry, and that nothing else was touched -/
def RgTo (C CG : Addr) (HB H H' : Hp) (x : Addr) (A : RgA) (U : List Str) (R R' : Rg) : Prop := RgAt C CG HB H' x A U R' ∧ But (ownR A R) H H' ∧ ∀ a ∈ ownR A R', a ∈ ownR A R ∨ H a = none
theorem RgTo.refl (h : RgAt C CG HB H x A U R) : RgTo C CG HB H H x A U R R := ⟨h, But.refl H, fun a ha => .inl ha⟩
theorem RgTo.ex {R2 : Rg} {H2 : Hp} (h : RgTo C CG HB H H' x A U R R2) (e : Ex H' H2) : RgTo C CG HB H H2 x A U R R2 := ⟨h.1.ex e, h.2.1.trans (But.of e), h.2.2⟩
theorem RgTo.from {R2 : Rg} {H2 : Hp} (e : Ex H H') (h : RgTo C CG HB H' H2 x A U R R2) : RgTo C CG HB H H2 x A U R R2 := ⟨h.1, (But.of e).trans h.2.1, fun a ha => (h.2.2 a ha).imp id fun z => fresh_back e z⟩
theorem RgTo.trans {R2 R3 : Rg} {H2 H3 : Hp} (h : RgTo C CG HB H H2 x A U R R2) (k : RgTo C CG HB H2 H3 x A U R2 R3) : RgTo C CG HB H H3 x A U R R3 := by
  refine ⟨k.1, fun a o ha ho => ?_, fun a ha => ?_⟩
  · refine k.2.1 a o (fun z => ?_) (h.2.1 a o ha ho)
    rcases h.2.2 a z with z | z
    · exact ha z
    · rw [ho] at z; cases z
  · rcases k.2.2 a ha with z | z
    · exact h.2.2 a z
    · by_cases hm : a ∈ ownR A R
      · exact .inl hm
      · refine .inr ?_
        cases hh : H a with
        | none => rfl
        | some o =>
          have y := h.2.1 a o hm hh
          rw [z] at y
          cases y
/-! ### one part -/
theorem RgAt.setS (h : RgAt C CG HB H x A U R) (st' : List (Str × Str)) (hk : st'.map (·.1) = U) (hv : ∀ r ∈ st', r.2 ∈ states5) : RgTo C CG HB H (upd H A.aS (.dK (kvSt st'))) x A U R { R with st := st' } := by
  refine h.chg (i := 0) (l := [A.aS]) ((But.refl H).upd (by simp)) (fun a ha => ha) (fun a ha => .inl ha) (h.nn 0) ?_ (fun z => absurd rfl z) (fun _ => rfl) (fun _ => rfl) (fun _ => rfl) (fun _ => rfl) (fun _ => rfl) (fun _ => rfl) (fun _ => upd_same) (fun z => nomatch z) (fun z => nomatch z) (fun z => nomatch z) (fun z => nomatch z) (fun z => nomatch z) (fun z => nomatch z)
  have w := h.wf
  exact ⟨w.un, w.up, w.u1, w.u40, hk, hv, w.ex, w.xi, w.cn, w.cu, w.hn, w.hu⟩
theorem RgAt.setH (h : RgAt C CG HB H x A U R) (hd' : List Str) (hn : hd'.Nodup) (hu : ∀ n ∈ hd', n ∈ U) : RgTo C CG HB H (upd H A.aH (.dK (kvHd hd'))) x A U R { R with hd := hd' } := by
  refine h.chg (i := 3) (l := [A.aH]) ((But.refl H).upd (by simp)) (fun a ha => ha) (fun a ha => .inl ha) (h.nn 3) ?_ (fun _ => rfl) (fun _ => rfl) (fun _ => rfl) (fun z => absurd rfl z) (fun _ => rfl) (fun _ => rfl) (fun _ => rfl) (fun z => nomatch z) (fun z => nomatch z) (fun z => nomatch z) (fun _ => upd_same) (fun z => nomatch z) (fun z => nomatch z) (fun z => nomatch z)
  have w := h.wf
  exact ⟨w.un, w.up, w.u1, w.u40, w.st, w.sv, w.ex, w.xi, w.cn, w.cu, hn, hu⟩
theorem ownG_nodup {g : List Row} {G : GA} (n : NdAt CG H G.x G.a U g) : (ownG G g).Nodup := by
  refine List.nodup_cons.mpr ⟨fun z => ?_, n.ok.ads⟩
  obtain ⟨r, hr, e⟩ := List.mem_map.mp z
  exact n.da hr e.symm
theorem RgAt.setN {l : List Addr} {g' : List Row} (h : RgAt C CG HB H x A U R) (b : But l H H') (hl : ∀ a ∈ l, a ∈ ownG A.gN R.g) (n : NdAt CG H' A.gN.x A.gN.a U g') (nw : ∀ r ∈ g', r.a ∈ ownG A.gN R.g ∨ H r.a = none) : RgTo C CG HB H H' x A U R { R with g := g' } := by
  refine h.chg (i := 4) (l := l) b hl (fun a ha => ?_) (ownG_nodup n) ?_ (fun _ => rfl) (fun _ => rfl) (fun _ => rfl) (fun _ => rfl) (fun z => absurd rfl z) (fun _ => rfl) (fun _ => rfl) (fun z => nomatch z) (fun z => nomatch z) (fun z => nomatch z) (fun z => nomatch z) (fun _ => n) (fun z => nomatch z) (fun z => nomatch z)
  · rcases List.mem_cons.mp ha with rfl | ha
    · exact .inl List.mem_cons_self
    · obtain ⟨r, hr, rfl⟩ := List.mem_map.mp ha
      exact nw r hr
  · have w := h.wf
    exact ⟨w.un, w.up, w.u1, w.u40, w.st, w.sv, w.ex, w.xi, w.cn, w.cu, w.hn, w.hu⟩
theorem RgAt.setE {l : List Addr} {g' : List Row} (h : RgAt C CG HB H x A U R) (b : But l H H') (hl : ∀ a ∈ l, a ∈ ownG A.gE R.ge) (n : NdAt CG H' A.gE.x A.gE.a U g') (nw : ∀ r ∈ g', r.a ∈ ownG A.gE R.ge ∨ H r.a = none) : RgTo C CG HB H H' x A U R { R with ge := g' } := by
  refine h.chg (i := 5) (l := l) b hl (fun a ha => ?_) (ownG_nodup n) ?_ (fun _ => rfl) (fun _ => rfl) (fun _ => rfl) (fun _ => rfl) (fun _ => rfl) (fun z => absurd rfl z) (fun _ => rfl) (fun z => nomatch z) (fun z => nomatch z) (fun z => nomatch z) (fun z => nomatch z) (fun z => nomatch z) (fun _ => n) (fun z => nomatch z)
  · rcases List.mem_cons.mp ha with rfl | ha
    · exact .inl List.mem_cons_self
    · obtain ⟨r, hr, rfl⟩ := List.mem_map.mp ha
      exact nw r hr
  · have w := h.wf
    exact ⟨w.un, w.up, w.u1, w.u40, w.st, w.sv, w.ex, w.xi, w.cn, w.cu, w.hn, w.hu⟩
theorem RgAt.setA {l : List Addr} {g' : List Row} (h : RgAt C CG HB H x A U R) (b : But l H H') (hl : ∀ a ∈ l, a ∈ ownG A.gA R.ga) (n : NdAt CG H' A.gA.x A.gA.a U g') (nw : ∀ r ∈ g', r.a ∈ ownG A.gA R.ga ∨ H r.a = none) : RgTo C CG HB H H' x A U R { R with ga := g' } := by
  refine h.chg (i := 6) (l := l) b hl (fun a ha => ?_) (ownG_nodup n) ?_ (fun _ => rfl) (fun _ => rfl) (fun _ => rfl) (fun _ => rfl) (fun _ => rfl) (fun _ => rfl) (fun z => absurd rfl z) (fun z => nomatch z) (fun z => nomatch z) (fun z => nomatch z) (fun z => nomatch z) (fun z => nomatch z) (fun z => nomatch z) (fun _ => n)
  · rcases List.mem_cons.mp ha with rfl | ha
    · exact .inl List.mem_cons_self
    · obtain ⟨r, hr, rfl⟩ := List.mem_map.mp ha
      exact nw r hr
  · have w := h.wf
    exact ⟨w.un, w.up, w.u1, w.u40, w.st, w.sv, w.ex, w.xi, w.cn, w.cu, w.hn, w.hu⟩
/-! ### exported values -/
theorem nodup_key {α : Type} : ∀ {l : List (Str × α)}, (l.map (·.1)).Nodup → ∀ {r r' : Str × α}, r ∈ l → r' ∈ l → r.1 = r'.1 → r = r'
  | y :: l, hn, r, r', h, h', e => by
    rw [List.map_cons, List.nodup_cons] at hn
    rcases List.mem_cons.mp h with h1 | h1
    · rcases List.mem_cons.mp h' with h2 | h2
      · rw [h1, h2]
      · exact absurd (by rw [← h1, e]; exact List.mem_map_of_mem h2) hn.1
    · rcases List.mem_cons.mp h' with h2 | h2
      · exact absurd (by rw [← h2, ← e]; exact List.mem_map_of_mem h1) hn.1
      · exact nodup_key hn.2 h1 h2 e
theorem nodup_of_ad : ∀ {l : XRows}, (l.map xAd).Nodup → ∀ {r r' : Str × (Addr × Ints)}, r ∈ l → r' ∈ l → xAd r = xAd r' → r = r'
  | y :: l, hn, r, r', h, h', e => by
    rw [List.map_cons, List.nodup_cons] at hn
    rcases List.mem_cons.mp h with h1 | h1
    · rcases List.mem_cons.mp h' with h2 | h2
      · rw [h1, h2]
      · exact absurd (by rw [← h1, e]; exact List.mem_map_of_mem (f := xAd) h2) hn.1
    · rcases List.mem_cons.mp h' with h2 | h2
      · exact absurd (by rw [← h2, ← e]; exact List.mem_map_of_mem (f := xAd) h1) hn.1
      · exact nodup_of_ad hn.2 h1 h2 e
theorem xrow_get (h : RgAt C CG HB H x A U R) {m : Str} (hm : m ∈ U) : ∃ a e, getA R.ex m = some (a, e) ∧ H a = some (.dK (kvInt e)) ∧ (m, (a, e)) ∈ R.ex ∧ valV (kvX R.ex) (.inr m) = some (.ref a) := by
  obtain ⟨⟨a, e⟩, hg⟩ := getA_some (l := R.ex) (n := m) (by rw [h.wf.ex]; exact hm)
  have mem := getA_mem hg
  refine ⟨a, e, hg, h.hXi _ mem, mem, ?_⟩
  unfold kvX
  rw [valV_mapA (fun r : Addr × Ints => V.ref r.1), hg]
  rfl
theorem putX_ad {xs : XRows} {m : Str} {a : Addr} {e e' : Ints} (hn : (xs.map (·.1)).Nodup) (h : getA xs m = some (a, e)) : (putA xs m (a, e')).map xAd = xs.map xAd ∧ (putA xs m (a, e')).map (·.1) = xs.map (·.1) := by
  have mem : m ∈ xs.map (·.1) := getA_key.mp (by rw [h]; rfl)
  refine ⟨?_, by rw [putA_keys, if_pos mem]⟩
  unfold putA
  rw [if_pos (List.any_eq_true.mpr ⟨_, getA_mem h, decide_eq_true rfl⟩), List.map_map]
  refine List.map_congr_left fun r hr => ?_
  show xAd (if r.1 = m then (r.1, (a, e')) else r) = xAd r
  by_cases he : r.1 = m
  · rw [if_pos he]
    have : r = (m, (a, e)) := nodup_key hn hr (getA_mem h) he
    rw [this]
    rfl
  · rw [if_neg he]
theorem mem_putA {α : Type} {l : List (Str × α)} {n : Str} {v : α} {r : Str × α} (h : r ∈ putA l n v) : r = (n, v) ∨ (r ∈ l ∧ r.1 ≠ n) := by
  unfold putA at h
  split at h
  · obtain ⟨y, hy, rfl⟩ := List.mem_map.mp h
    by_cases e : y.1 = n
    · rw [if_pos e]; exact .inl (by rw [e])
    · rw [if_neg e]; exact .inr ⟨hy, e⟩
  · rename_i hn
    rcases List.mem_append.mp h with z | z
    · exact .inr ⟨z, fun e => hn (List.any_eq_true.mpr ⟨r, z, decide_eq_true e⟩)⟩
    · exact .inl (List.mem_singleton.mp z)
/-- a value is exported -/
theorem RgAt.setXi {m l : Str} {a : Addr} {e : Ints} {i : Int} (h : RgAt C CG HB H x A U R) (hg : getA R.ex m = some (a, e)) : RgTo C CG HB H (upd H a (.dK (kvInt (putA e l i)))) x A U R { R with ex := putA R.ex m (a, putA e l i) } := by
  have w := h.wf
  have nx : (R.ex.map (·.1)).Nodup := by rw [w.ex]; exact rise_nodup w.up
  obtain ⟨q1, q2⟩ := putX_ad (e' := putA e l i) nx hg
  have mem := getA_mem hg
  have min : a ∈ R.ex.map xAd := List.mem_map_of_mem (f := xAd) mem
  have nn1 := h.nn 1
  have seg : segR A { R with ex := putA R.ex m (a, putA e l i) } 1 = segR A R 1 := by show A.aX :: (putA R.ex m (a, putA e l i)).map xAd = _; rw [q1]; rfl
  have naX : A.aX ≠ a := fun z => (List.nodup_cons.mp nn1).1 (by rw [z]; exact min)
  refine h.chg (i := 1) (l := [a]) ((But.refl H).upd (by simp)) (fun b hb => by rw [List.mem_singleton.mp hb]; exact List.mem_cons_of_mem _ min) (fun b hb => .inl (by rw [seg] at hb; exact hb)) (by rw [seg]; exact nn1) ?_ (fun _ => rfl) (fun z => absurd rfl z) (fun _ => rfl) (fun _ => rfl) (fun _ => rfl) (fun _ => rfl) (fun _ => rfl) (fun z => nomatch z) (fun _ => ⟨?_, fun r hr => ?_⟩) (fun z => nomatch z) (fun z => nomatch z) (fun z => nomatch z) (fun z => nomatch z) (fun z => nomatch z)
  · refine ⟨w.un, w.up, w.u1, w.u40, w.st, w.sv, q2.trans w.ex, fun r hr => ?_, w.cn, w.cu, w.hn, w.hu⟩
    rcases mem_putA hr with rfl | ⟨hr, _⟩
    · exact putA_nodup (w.xi _ mem)
    · exact w.xi r hr
  · rw [upd_ne naX]
    have e1 : kvX (putA R.ex m (a, putA e l i)) = kvX R.ex := by
      have y : ∀ xs : XRows, kvX xs = (xs.map (·.1)).zipWith (fun n b => ((.inr n : Key), V.ref b)) (xs.map xAd) := fun xs => by
        unfold kvX
        induction xs with
        | nil => rfl
        | cons r xs ih => rw [List.map_cons, List.map_cons, List.map_cons, List.zipWith_cons_cons, ih]; rfl
      rw [y, y, q1, q2]
    show H A.aX = some (.dK (kvX (putA R.ex m (a, putA e l i))))
    rw [e1]
    exact h.hX
  · rcases mem_putA hr with rfl | ⟨hr, ne⟩
    · exact upd_same
    · have na : r.2.1 ≠ a := fun z => by
        have hn2 := (List.nodup_cons.mp nn1).2
        have y := nodup_of_ad hn2 hr mem z
        exact ne (by rw [y])
      rw [upd_ne na]
      exact h.hXi r hr
end
end Cr
/-! own errors made with two values that are not copied -/
namespace Cr
open PySem PySem.Spec PyProof.Rows L2 Evl
theorem rsd2U {H : Hp} {a C dx : Addr} {f g : Str} {v u : V} {d e : PyData} (ha : H a = none) (hv : Dt H v d) (he : Dt H u e) (hx : (upd H a (exo a C none)) dx = none) (ne : dx ≠ a) :
    Rsd2 H (upd (del (two2 (upd H a (exo a C none)) a C dx f g v u) a) dx (.xd [(g, u), (f, v)])) dx f g d e := by
  have z1 : H dx = none := by rw [upd_ne ne] at hx; exact hx
  have ex : Ex H (upd (del (two2 (upd H a (exo a C none)) a C dx f g v u) a) dx (.xd [(g, u), (f, v)])) := fun b o hb => by
    have na : b ≠ a := ne_of_none hb ha
    have nx : b ≠ dx := ne_of_none hb z1
    rw [upd_ne nx, del_ne na]
    unfold two2
    rw [upd_ne nx, upd_ne na, upd_ne nx, upd_ne na]
    exact hb
  exact ⟨z1, ex, v, u, upd_same, Dt.ex ex hv, Dt.ex ex he⟩
section
variable {C : Addr} {f g : Str} {ta : TA} {σ : L2.St} {H : Hp} {Q : XK} {v u : V} {d e : PyData}
theorem mk_twoS {x : Str} (h : EvA ta σ H [v, .str x]) (hv : Dt H v d) (lx : x.length ≤ 1000) (q : ∀ dx H', Rsd2 H H' dx f g d (.str x) → Q (.ref C) (some dx) H') : tMkO C (spInit2S C f g) [] ta σ H Q := by
  refine h H (Ex.refl H) _ fun H1 e1 => ⟨by show 2 ≤ 1000; decide, fun a ha => ⟨a, v, x, rfl, lx, upd_same, fun dx hx ne => ⟨rfl, dx, [(g, .str x), (f, v)], ?_, ?_, ?_, q dx _ ((rsd2U ha (Dt.ex e1 hv) (.str x) hx ne).back e1)⟩⟩⟩
  · unfold two2
    rw [upd_ne ne.symm, upd_same]
  · unfold two2
    rw [upd_same]
  · exact (rsd2U (f := f) (g := g) ha (Dt.ex e1 hv) (.str x) hx ne).new
end
end Cr
/-! general: what a comprehension gives, as a filtered list -/
namespace Cr
open PySem PySem.Spec PyProof.Rows L2 Evl
theorem given_flt {α : Type} (l : List α) (d : α) (f : α → Bool) (v : α → V) : given l.length (fun i => f (l.getD i d)) (fun i => v (l.getD i d)) = (l.filter f).map v := by
  have e : (List.range l.length).map (fun i => l.getD i d) = l := by
    refine List.ext_getElem? fun i => ?_
    rw [List.getElem?_map]
    by_cases hi : i < l.length
    · rw [List.getElem?_range hi, List.getElem?_eq_getElem hi]
      show some (l.getD i d) = _
      rw [List.getD_eq_getElem?_getD, List.getElem?_eq_getElem hi]
      rfl
    · rw [List.getElem?_eq_none (by rw [List.length_range]; omega), List.getElem?_eq_none (by omega)]
      rfl
  have z : (((List.range l.length).map fun i => l.getD i d).filter f).map v = (l.filter f).map v := by rw [e]
  rw [List.filter_map, List.map_map] at z
  exact z
end Cr
/-! comprehensions over the keys of a dict that is locked meanwhile -/
namespace Cr
open PySem PySem.Spec PyProof.Rows L2 Evl
theorem el_keysW {wl te : TE} {tt : TT} {σ : L2.St} {H : Hp} {d : Addr} {od : Obj} {kvs : List (Key × V)} {names : List Str} {j : Nat} (f : Str → Bool) (v : Str → V) (hk : kvs.map (·.1) = names.map Sum.inr) (hd : H d = some (.frz od (.dK kvs))) (hl : Ev wl σ H (.ref d)) (hz : names.length ≤ 40000)
    (hw : ∀ x, wipe ((wipe σ [j]).set j (some x)) [j] = wipe σ [j]) (ht : ∀ n H1, Ex H H1 → n ∈ names → EvT tt ((wipe σ [j]).set j (some (.str n))) H1 (f n)) (he : ∀ n H1, Ex H H1 → n ∈ names → f n = true → Ev te ((wipe σ [j]).set j (some (.str n))) H1 (v n)) :
    EvL (tLc (iKeys wl) (gName j) tt te [j]) σ H ((names.filter f).map v) := by
  have lk : kvs.length = names.length := by
    have z := congrArg List.length hk
    rw [List.length_map, List.length_map] at z
    exact z
  have lc := el_lcW (wi := iKeys wl) (g := gName j) (tt := tt) (te := te) (vs := [j]) (σ := σ) (H := H) (n := names.length) (Y := fun i H x H' => H' = H ∧ ∃ k v, kvs[i]? = some (k, v) ∧ x = kV k) (fun i => f (names.getD i "")) (fun i => v (names.getD i "")) hz
    (fun H1 e1 R r => hl H1 e1 _ fun H2 e2 => ⟨d, od, rfl, .inl ⟨kvs, (e1.trans e2) _ _ hd, r H2 _ (fun H => H d = some (.frz od (.dK kvs))) (by rw [← lk]; exact walk_keys) (fun _ _ e z => e _ _ z) e2 ((e1.trans e2) _ _ hd)⟩⟩)
    (fun i y H1 H2 e1 hi hy => by
      obtain ⟨rfl, k, u, hu, rfl⟩ := hy
      have kn : k = .inr names[i] := by
        have z := congrArg (·[i]?) hk
        simp only [List.getElem?_map] at z
        rw [hu, List.getElem?_eq_getElem hi] at z
        exact Option.some.inj z
      have gd : names.getD i "" = names[i] := by rw [List.getD_eq_getElem?_getD, List.getElem?_eq_getElem hi]; rfl
      rw [gd]
      subst kn
      have mem : names[i] ∈ names := List.getElem_mem hi
      exact ⟨Ex.refl _, _, hw _, fun R r => r, ht _ H2 e1 mem, fun h => he _ H2 e1 mem h⟩)
  rw [given_flt names "" f v] at lc
  exact lc
/-- .. and the dict is free again -/
theorem lock_keys {wl te : TE} {tt : TT} {σ : L2.St} {H : Hp} {d : Addr} {kvs : List (Key × V)} {names : List Str} {j : Nat} {Q : VK} (f : Str → Bool) (v : Str → V) (hk : kvs.map (·.1) = names.map Sum.inr) (hd : H d = some (.dK kvs)) (hz : names.length ≤ 40000) (hw : ∀ x, wipe ((wipe σ [j]).set j (some x)) [j] = wipe σ [j])
    (hl : ∀ od, Ev wl σ (upd H d (.frz od (.dK kvs))) (.ref d)) (ht : ∀ od n H1, Ex (upd H d (.frz od (.dK kvs))) H1 → n ∈ names → EvT tt ((wipe σ [j]).set j (some (.str n))) H1 (f n)) (he : ∀ od n H1, Ex (upd H d (.frz od (.dK kvs))) H1 → n ∈ names → f n = true → Ev te ((wipe σ [j]).set j (some (.str n))) H1 (v n))
    (q : ∀ l H', H l = none → Ex H H' → H' l = some (.lst ((names.filter f).map v)) → Q (.ref l) H') : tLockE (tLc (iKeys wl) (gName j) tt te [j]) σ H Q := by
  refine ⟨d, .dK kvs, hd, trivial, fun od => ?_⟩
  refine el_keysW (d := d) (od := od) (kvs := kvs) f v hk upd_same (hl od) hz hw (ht od) (he od) _ (Ex.refl _) _ fun l H2 zl e2 hl2 => ⟨e2 _ _ upd_same, ?_⟩
  have ld : l ≠ d := fun e => by rw [e, upd_same] at zl; cases zl
  refine q l _ (by rw [upd_ne ld] at zl; exact zl) (fun b o hb => ?_) (by rw [upd_ne ld]; exact hl2)
  by_cases e : b = d
  · rw [e] at hb ⊢
    rw [hd] at hb
    rw [upd_same]
    exact hb
  · rw [upd_ne e]
    exact e2 _ _ (by rw [upd_ne e]; exact hb)
end Cr
/-! a classmethod with a star parameter: C.m(), C.m(a, b) -/
/-! C.m(..), a classmethod, in a try: what is wished of an exception may speak of the slots -/
/-! o.m(..), m a staticmethod of o's class -/
namespace Cr
open PySem PySem.Spec PyProof.Rows L2 Evl
structure SInst (K : PySem.W.Frag) (C : Addr) (m : Str) (p g : Addr) : Prop where
  pg : PySem.W.plainGet K C Str.empty = true
  ic : PySem.W.isClsIn K C = true
  at_ : PySem.W.findIn K (.ref C) m = some (some (.ref p))
  ty : PySem.W.typeIn K (.ref p) = some (.type "staticmethod")
  get : PySem.W.specialIn K (.ref p) "__get__" = some (some (.builtin "staticmethod.__get__"))
  tk : PySem.W.takesIn K (.ref p) = some false
  cp : PySem.W.copiedNames.contains m = false
  rc : ∃ rest, PySem.W.recIn K p "staticmethod" = some (.ref g :: rest)
  kp : PySem.W.keepIn K (.ref g) = true
theorem SInst.get' {K : PySem.W.Frag} {C : Addr} {m : Str} {p g : Addr} (k : SInst K C m p g) : PySem.W.plainGet K C m = true := k.pg
section
variable {X : Cx} {pins : List (Addr × Obj)} {σ : L2.St} {H : Hp} {s : Shared} {a C p g : Addr} {m : Str} {A : Around} {E : Value → Shared → Prop}
theorem getmethsm_ok {pl : Sem Bool} {ox od : Obj} {Q : Value × List Value → Shared → Prop} (I : Inv X pins σ H s) (J : PySem.W.InstAt s.heap a ox C (some od)) (hl : PySem.W.lookIn m od = some none) (k : SInst X.K C m p g)
    (h : ∀ s', Inv X pins σ H s' → Q (.ref g, []) s') : wpAny (model X.prog X.w) A (getMethod (.ref a) m pl) Q E s := by
  obtain ⟨rest, hp⟩ := k.rc
  refine PySem.W.method_usual (r := some (.ref p)) I.kIn J (PySem.W.plainGet_of k.get').1 (PySem.W.plainGet_of k.get').2 k.at_ ?_ ?_
  · show ((PySem.W.typeIn X.K (.ref p)).any fun t => t != .type "function" && t != .type "method_descriptor" && t != .type "wrapper_descriptor") = true
    rw [k.ty]
    first
    | rfl
    | decide +kernel
  · refine PySem.W.get_bind I.kIn J (PySem.W.plainGet_of k.get').1 (ClX.find_cm k.ic k.at_ k.get k.tk k.cp hl) (PySem.W.plainGet_of k.get').2 ?_
    refine wpAny_call (PySem.W.sm_get (s := { s with toks := s.toks + 1 }) I.kIn hp (PySem.W.handed_on rfl ?_))
    exact h _ (I.tok _)
end
def tSMethD (C : Addr) (m : Str) (sp : Sp) (dvs : List V) (E : XK) (ta : TE) (t : TA) : TE := fun σ H Q => ta σ H fun x H1 => ∃ a dx fs, x = .ref a ∧ H1 a = some (.ins C dx fs) ∧ fs.lookup m = none ∧ t σ H1 fun ws H2 => sp (ws ++ dvs) H2 Q E
theorem pe_smethD {X : Cx} {CX : CXT} {k : Nat} {C p g : Addr} {fd : FuncData} {ps : List Str} {ds : List Value} {dvs : List V} {sp : Sp} {E : XK} {o e : Expr} {es : List Expr} {m : Str} {pos apos : Pos} {ta : TE} {t : TA} {pl : Sem Bool}
    (he : PE X o ta) (c : SInst X.K C m p g) (F : FnOk X.prog X.w X.K X.mg X.base CX k g fd ps sp) (hr : Room k X.A) (hb : Binds X.K fd ps ds) (hd : Vals dvs ds) (hx : Passes CX X E) (ha : PA X (e :: es) t)
    (hst : starEach (e :: es) X.env = (false, eval e X.env) :: starEach es X.env := by rfl) (hpl : (backTo pos (starEach es X.env)).any (·.1) = false := by rfl)
    (ht : eval (.Call (.Attribute o m apos) (e :: es) [] pos) X.env = (do
      let ov ← eval o X.env
      standAt apos.atName
      let (f, first) ← holding [ov] (getMethod ov m pl)
      callWith pos f first (backTo pos (starEach (e :: es) X.env)) (backToKw pos (keywordEach [] X.env))) := by rfl) :
    PE X (.Call (.Attribute o m apos) (e :: es) [] pos) (tSMethD C m sp dvs E ta t) := by
  refine ⟨fun pins s σ H Q I h => ?_⟩
  refine PySem.W.methodCall_KW (pl := pl) (thn (he.run pins s σ H _ I h) fun u s1 ⟨x, H1, I1, rx, a, dx, fs, ex, ea, l, q⟩ => ?_) ht
  subst ex
  obtain rfl : u = Value.ref a := rx
  obtain ⟨mA, O, rr, _, _, _⟩ := ins_get I1.hok ea
  have hn : mA m = none := RelO.none_of (by rw [← l]; exact rr m)
  obtain ⟨od, J, hl⟩ := O.look
  refine getmethsm_ok I1 J (by rw [hl m, hn]) c fun s2 I2 => ?_
  refine PySem.W.callWith_K (h₀ := X.base) I2.ok.mod.kin c.kp (thn (ha.run pos pins s2 σ H1 _ I2 q) fun us s3 ⟨vs, H2, I3, rv, q2⟩ => ⟨I3.kIn, ?_⟩) hst hpl
  exact run_fn F hr hb hd hx I3 rv q2
end Cr
/-! registries: known, check_state, state_of, in_state -/
namespace Cr
open PySem PySem.Spec PyProof.Rows L2 Evl
abbrev sRKn : Stmt := inClass (topS 21) 6
abbrev sRCs : Stmt := inClass (topS 21) 7
abbrev sRSo : Stmt := inClass (topS 21) 9
theorem scRSo : FnScope ["self", "module"] ["self", "module"] (defScope sRSo) := ⟨rfl, rfl, rfl, by decide +kernel, rfl, by decide +kernel, by decide +kernel⟩
abbrev sRIs : Stmt := inClass (topS 21) 5
abbrev sRIn : Stmt := inClass (topS 21) 10
theorem scRKn : FnScope ["self", "value"] ["self", "value"] (defScope sRKn) := ⟨rfl, rfl, rfl, by decide +kernel, rfl, by decide +kernel, by decide +kernel⟩
theorem scRCs : FnScope ["self", "module", "state"] ["self", "module", "state"] (defScope sRCs) := ⟨rfl, rfl, rfl, by decide +kernel, rfl, by decide +kernel, by decide +kernel⟩
theorem scRIs : FnScope ["value"] ["value"] (defScope sRIs) := ⟨rfl, rfl, rfl, by decide +kernel, rfl, by decide +kernel, by decide +kernel⟩
theorem scRIn : FnScope ["self", "state", "module"] ["self", "state"] (defScope sRIn) := ⟨rfl, rfl, rfl, by decide +kernel, rfl, by decide +kernel, by decide +kernel⟩
/-- the class -/
structure RgC (K : PySem.W.Frag) (mg : Str → Option Value) (C : Addr) : Prop where
  cl : Cls K C
  nS : NoAttr K C "states"
  nX : NoAttr K C "exported"
  nC : NoAttr K C "chains"
  nH : NoAttr K C "held"
  nN : NoAttr K C "graph"
  nE : NoAttr K C "graph_ever"
  nA : NoAttr K C "accesses"
  at_ : mg "Registry" = some (.ref C)
def stM (R : Rg) (m : Str) : Str := (getA R.st m).getD ""
theorem st_get {U : List Str} {R : Rg} (w : WfR U R) {m : Str} (hm : m ∈ U) : getA R.st m = some (stM R m) := by
  obtain ⟨v, hv⟩ := getA_some (l := R.st) (n := m) (by rw [w.st]; exact hm)
  unfold stM
  rw [hv]
  rfl
theorem st_in {U : List Str} {R : Rg} (w : WfR U R) {m : Str} (hm : m ∈ U) : stM R m ∈ states5 := w.sv _ (getA_mem (st_get w hm))
theorem st_len {x : Str} (h : x ∈ states5) : x.length ≤ 8 := by
  have : (states5.all fun x => decide (x.length ≤ 8)) = true := by decide +kernel
  exact of_decide_eq_true (List.all_eq_true.mp this x h)
theorem st_val {U : List Str} {R : Rg} (w : WfR U R) {m : Str} (hm : m ∈ U) : valV (kvSt R.st) (.inr m) = some (.str (stM R m)) := by
  unfold kvSt
  rw [valV_mapA V.str, st_get w hm]
  rfl
theorem ev_dgRd {td ty : TE} {σ : L2.St} {H : Hp} {a : Addr} {kvs : List (Key × V)} {x : Str} {v : V} (hd : Ev td σ H (.ref a)) (hy : Ev ty σ H (.str x)) (h : Rd H a (.dK kvs)) (hv : valV kvs (.inr x) = some v) : Ev (tDGet td ty) σ H v := fun H1 e Q q =>
  hd H1 e _ fun H2 e2 => hy H2 (e.trans e2) _ fun H3 e3 => ⟨a, v, rfl, .inl ⟨kvs, .inr x, ex_rd ((e.trans e2).trans e3) h, rfl, hv.symm⟩, q H3 (e2.trans e3)⟩
theorem et_dnotR {ty td : TE} {σ : L2.St} {H : Hp} {a : Addr} {kvs : List (Key × V)} {x : Str} (hy : Ev ty σ H (.str x)) (hd : Ev td σ H (.ref a)) (h : H a = some (.dK kvs)) : EvT (tTest (tDNotIn ty td)) σ H (!(valV kvs (.inr x)).isSome) := et_test (fun H1 e Q q =>
  hy H1 e _ fun H2 e2 => hd H2 (e.trans e2) _ fun H3 e3 => ⟨a, _, rfl, DGet.k (k := .inr x) ((e.trans (e2.trans e3)) _ _ h), q H3 (e2.trans e3)⟩)
theorem ev_mthR {te : TE} {ta : TA} {sp : Sp} {E : XK} {σ : L2.St} {H : Hp} {x C dx : Addr} {fs : List (Str × V)} {m : Str} {vs : List V} {z : V} (h : Ev te σ H (.ref x)) (ho : H x = some (.ins C dx fs)) (hl : fs.lookup m = none) (ha : EvA ta σ H vs) (hs : SpV sp (.ref x :: (vs ++ [])) H z) : Ev (tMeth C m sp [] E te ta) σ H z := fun H1 e Q q =>
  h H1 e _ fun H2 e2 => ⟨x, dx, fs, rfl, (e.trans e2) _ _ ho, hl, ha H2 (e.trans e2) _ fun H3 e3 => hs H3 ((e.trans e2).trans e3) Q (fun H4 e4 => q H4 ((e2.trans e3).trans e4)) E⟩
def spRKn (C CG : Addr) : Sp := fun vs H Q _ => ∃ x m HB A U R, vs = [.ref x, .str m] ∧ RgAt C CG HB H x A U R ∧ m ∈ U ∧ ∀ H', Ex H H' → Q (.str m) H'
def spRCs (C CG CW : Addr) : Sp := fun vs H Q E => ∃ x m st HB A U R, vs = [.ref x, .str m, .str st] ∧ RgAt C CG HB H x A U R ∧ m ∈ U ∧ (stM R m = st → ∀ H', Ex H H' → Q .non H') ∧
  (stM R m ≠ st → ∀ dx H', Rsd2 H H' dx "module" "found" (.str m) (.str (stM R m)) → E (.ref CW) (some dx) H')
def spRSo (C CG : Addr) : Sp := fun vs H Q _ => ∃ x m HB A U R, vs = [.ref x, .str m] ∧ RgAt C CG HB H x A U R ∧ m ∈ U ∧ ∀ H', Ex H H' → Q (.str (stM R m)) H'
def spRIs : Sp := fun vs H Q _ => ∃ st, vs = [.str st] ∧ ∀ H', Ex H H' → Q (.bl (decide (st ∈ states5))) H'
/-- the modules in a state -/
def inR (U : List Str) (R : Rg) (st : Str) : List Str := U.filter fun m => decide (stM R m = st)
def spRIn (C CG : Addr) : Sp := fun vs H Q _ => ∃ x st HB A U R, vs = [.ref x, .str st] ∧ RgAt C CG HB H x A U R ∧ st ∈ states5 ∧ ∀ l H', H l = none → Ex H H' → H' l = some (.lst ((inR U R st).map V.str)) → Q (.ref l) H'
section
variable {P : Program} {w : World} {K : PySem.W.Frag} {mg : Str → Option Value} {base : Heap}
theorem ev_isName {σ : L2.St} {H : Hp} {i : Nat} {m : Str} (hi : σ[i]? = some (some (.str m))) (hm : isNameS m = true) : Ev (tCall (spD isName) [] E0 (tCons (tVar i) tNil)) σ H (.bl true) := by
  have z := ev_call (sp := spD isName) (dvs := []) (E := E0) (ea_cons (ev_var (σ := σ) (H := H) hi) ea_nil) (spv_D (f := isName) (Dt.str (H := H) m) (sm_name hm))
  have e : isName (.str m) = true := hm
  rw [e] at z
  exact z
theorem ev_bareW {σ : L2.St} {H : Hp} {te : TE} {m : Str} (hi : Ev te σ H (.str m)) (hm : isNameS m = true) : Ev (tCall spBareW [] E0 (tCons te tNil)) σ H (.str m) := fun H1 e Q q => hi H1 e _ fun H2 e2 => ⟨m, rfl, by have := (low_free hm).1; omega, fun H3 e3 => q H3 (e2.trans e3)⟩
theorem ok_rkn {f C CG : Addr} {fd : FuncData} {k : Nat} (F : Fun K "known" "Registry.known" sRKn f fd) (T : RgC K mg C) (h1 : HasO P w K mg base k "is_name" ["value"] (spD isName)) (h2 : HasO P w K mg base k "bare_word" ["word"] spBareW) : FnOk P w K mg base CX0 (k + 1) f fd ["self", "value"] (spRKn C CG) := by
  obtain ⟨f1, d1, G1, b1, k1, g1⟩ := h1.ex
  obtain ⟨f2, d2, G2, b2, k2, g2⟩ := h2.ex
  refine F.ok scRKn (fun vs H Q E h => by obtain ⟨_, _, _, _, _, _, rfl, _⟩ := h; rfl) (fun cdv A outer s H vs Q E hr h => ?_)
  obtain ⟨x, m, HB, A', U, R, rfl, rg, hm, q⟩ := h
  have hu := hu_of hr
  refine ⟨_, pss_cons (ps_if (PW.pt (pw_or (pt_not (pt_val (pe_call (E := E0) G1 hr (by rfl) g1 k1 b1 .nil pass0 (pa_cons (pv 1) pa_nil)))) (pw_or1 (pt_cmp (pc_dnotin hu (pv 1) (pe_fld (pv 0) rfl)))))) pss_dead' pss_nil)
    (pss_one (ps_ret (pe_call (E := E0) G2 hr (by rfl) g2 k2 b2 .nil pass0 (pa_cons (pv 1) pa_nil)))), ?_⟩
  have nm := rg.wf.un m hm
  refine q_when (b := false) (et_is (et_or (a := false) (et_is (et_not (et_B (ev_isName rfl nm))) rfl) fun _ => et_is (et_dnotR (ev_var rfl) (ev_fld (ev_var rfl) rg.ob T.cl T.nS (flR_S A')) rg.hS) (by rw [st_val rg.wf hm]; rfl)) rfl) (fun z => nomatch z) (fun _ H1 e1 => ?_)
  exact s_ret (ev_bareW (ev_var rfl) nm) fun H2 e2 => q H2 (e1.trans e2)
theorem ok_rcs {f C CG CW : Addr} {fd : FuncData} {k n : Nat} (F : Fun K "check_state" "Registry.check_state" sRCs f fd) (T : RgC K mg C) (TW : MkErr P w K mg base n CW "WrongState" 2 (spInit2S CW "module" "found")) (hn : n + 1 ≤ k) : FnOk P w K mg base (L2.CX P w) (k + 1) f fd ["self", "module", "state"] (spRCs C CG CW) := by
  obtain ⟨fI, fdI, bb, psI, lpI, Ox, FI, bI, iI, tI, gC⟩ := TW
  refine F.okX scRCs (fun vs H Q E h => by obtain ⟨_, _, _, _, _, _, _, rfl, _⟩ := h; rfl) (fun cdv A outer s H vs Q E hr h => ?_)
  obtain ⟨x, m, st, HB, A', U, R, rfl, rg, hm, q, qe⟩ := h
  have hu := hu_of hr
  refine ⟨_, pss_one (ps_if (pt_cmpR op_ne (pe_dget hu (pe_fld (pv 0) rfl) (pv 1) (fun _ _ => rfl)) (pv 2) (nomark _)) (pss_one (ps_raise rfl (takes_of rfl rfl rfl rfl) (pmkG Ox iI tI FI (hr.mono hn) bI .nil pass0 (by rfl) gC (pa_cons (pv 1) (pa_cons (pe_dget hu (pe_fld (pv 0) rfl) (pv 1) (fun _ _ => rfl)) pa_nil))))) pss_nil), ?_⟩
  have st0 : ∀ {H' : Hp}, Ex H H' → Ev (tDGet (tFld K (tVar 0) "states") (tVar 1)) [some (.ref x), some (.str m), some (.str st)] H' (.str (stM R m)) := fun e => ev_dgRd (ev_fld (ev_var rfl) (e _ _ rg.ob) T.cl T.nS (flR_S A')) (ev_var rfl) (.inl (e _ _ rg.hS)) (st_val rg.wf hm)
  by_cases hs : stM R m = st
  · refine s_when (b := false) (et_is (et_test (ev_op (st0 (Ex.refl H)) (ev_var rfl) (rv_ne rfl))) (by rw [hs, decide_eq_true rfl]; rfl)) (fun z => nomatch z) (fun _ H1 e1 => q hs H1 e1)
  · refine s_when (b := true) (et_is (et_test (ev_op (st0 (Ex.refl H)) (ev_var rfl) (rv_ne rfl))) (by rw [decide_eq_false (fun e => hs (V.str.inj e))]; rfl)) (fun _ H1 e1 => ?_) (fun z => nomatch z)
    exact mk_twoS (ea_cons (ev_var rfl) (ea_cons (st0 e1) ea_nil)) (.str m) (Nat.le_trans (st_len (st_in rg.wf hm)) (by decide)) fun dx H' r => qe hs dx H' (r.back e1)
theorem ok_ris {f aT C : Addr} {mc : Value} {fd : FuncData} {k : Nat} (F : Fun K "is_state" "Registry.is_state" sRIs f fd) (B : Blt mg) (T : RgC K mg C) (cr : ClX.CRead K C mc) (cv : ClX.CVal K C mc "STATES" (.ref aT) (.ref aT)) (t5 : KTup K aT (states5.map V.str)) : FnOk P w K mg base CX0 (k + 1) f fd ["value"] spRIs := by
  refine F.ok scRIs (fun vs H Q E h => by obtain ⟨_, rfl, _⟩ := h; rfl) (fun cdv A outer s H vs Q E hr h => ?_)
  obtain ⟨st, rfl, q⟩ := h
  refine ⟨_, pss_one (ps_ret (pe_and (pe_callB call_isi (by rfl) B.isi bIsi (pa_cons (pv 0) (pa_cons (pe_bltn (v := .ty "str") (by rfl) B.str bStr rfl) pa_nil))) (pe_one (pe_cmpR op_in_seq (pv 0) (ClX.pe_cval (pe_glob (v := .ref C) (by rfl) T.at_ rfl)) (by rfl))))), ?_⟩
  have cvE : Ev (ClX.tCVal K (tC (.ref C)) "STATES") [some (.str st)] H (.ref aT) := fun H1 e Q' q' => ⟨C, mc, .ref aT, .ref aT, rfl, cr, cv, q' H1 (Ex.refl H1)⟩
  have isS : RC (rIsi K) [.str st, .ty "str"] H (.bl (isT "str" (.str st))) := rc_isi (Dt.str st) (by simp)
  refine s_ret (ev_andV (b := decide (st ∈ states5)) (ev_cb (ea_cons (ev_var rfl) (ea_cons ev_c ea_nil)) isS) fun _ => ev_is (ev_op (ev_var rfl) cvE (rv_inT (t5.sq) rfl (by decide +kernel))) ?_) fun H1 e1 => q H1 e1
  rw [if_neg (by decide)]
  congr 1
  rw [Bool.eq_iff_iff, decide_eq_true_eq]
  exact inV_mem
theorem ok_rin {f p g C CG : Addr} {fd fdS : FuncData} {k : Nat} (F : Fun K "in_state" "Registry.in_state" sRIn f fd) (T : RgC K mg C) (S : SInst K C "is_state" p g) (GS : FnOk P w K mg base CX0 k g fdS ["value"] spRIs) (bS : Binds K fdS ["value"] []) : FnOk P w K mg base CX0 (k + 1) f fd ["self", "state"] (spRIn C CG) := by
  refine F.ok scRIn (fun vs H Q E h => by obtain ⟨_, _, _, _, _, _, rfl, _⟩ := h; rfl) (fun cdv A outer s H vs Q E hr h => ?_)
  obtain ⟨x, st, HB, A', U, R, rfl, rg, hst, q⟩ := h
  have hu := hu_of hr
  refine ⟨_, pss_cons (ps_if (pt_not (pt_val (pe_smethD (E := E0) (pv 0) S GS hr bS .nil pass0 (pa_cons (pv 1) pa_nil)))) (pss_one (ps_ret (pe_lst pa_nil))) pss_nil)
    (pss_one (ps_ret (pe_lock (pe_lc (own := [("module", 2)]) (g := gName 2) (tt := tTest (tOp rEq (tDGet (tFld K (tVar 0) "states") (tVar 2)) (tVar 1))) (te := tVar 2) rfl scRIn.nd (pi_keys (pe_fld (pv 0) rfl)) (blkOk_by (own := [("module", 2)]) (N := ["self", "state", "module"]) (sc := defScope sRIn) (by decide +kernel))
      (fun _ _ _ _ _ => pg_name (i := 2) scRIn.nd rfl (Or.inl rfl)) (fun _ _ _ _ _ => by exact pts_one (pt_cmpR op_eq (pe_dget hu (pe_fld (pv 0) rfl) (pv 2) (fun _ _ => rfl)) (pv 1) (nomark _))) (fun _ _ _ _ _ => by exact pv 2))))), ?_⟩
  have is1 : EvT (tNot (tB (tSMethD C "is_state" spRIs [] E0 (tVar 0) (tCons (tVar 1) tNil)))) [some (.ref x), some (.str st), none] H false := et_is (et_not (et_B (b := true) (fun H1 e Q' q' => ⟨.ref x, rfl, x, A'.dx, _, rfl, e _ _ rg.ob, rfl, .str st, rfl, st, rfl, fun H2 e2 => by
    rw [decide_eq_true hst]
    exact q' H2 e2⟩))) rfl
  refine q_when (b := false) is1 (fun z => nomatch z) (fun _ H1 e1 => ?_)
  have rg1 := rg.ex e1
  have xS : x ≠ A'.aS := fun e => by have z := rg1.ob; rw [e, rg1.hS] at z; cases z
  have ks : (kvSt R.st).map (·.1) = U.map Sum.inr := by
    have z := rg.wf.st
    unfold kvSt
    rw [List.map_map, ← z, List.map_map]
    rfl
  refine lock_keys (j := 2) (d := A'.aS) (names := U) (fun m => decide (stM R m = st)) V.str ks rg1.hS (by have := rg.wf.u40; omega) (fun _ => rfl) (fun od => ?_) (fun od m H2 e2 hm => ?_) (fun od m H2 e2 hm _ => ev_var rfl) fun l H2 zl e2 hl => q l H2 (fresh_back e1 zl) (e1.trans e2) hl
  · exact ev_fld (ev_var rfl) (by rw [upd_ne xS]; exact rg1.ob) T.cl T.nS (flR_S A')
  · refine et_is (et_test (ev_op (ev_dgRd (x := m) (v := .str (stM R m)) (ev_fld (ev_var rfl) (e2 _ _ (by rw [upd_ne xS]; exact rg1.ob)) T.cl T.nS (flR_S A')) (ev_var rfl) (.inr ⟨od, e2 _ _ upd_same⟩) (st_val rg.wf hm)) (ev_var rfl) (rv_eq rfl))) ?_
    exact decide_eq_decide.mpr ⟨fun e => V.str.inj e, fun e => by rw [e]⟩
theorem ok_rso {f C CG : Addr} {fd : FuncData} {k : Nat} (F : Fun K "state_of" "Registry.state_of" sRSo f fd) (T : RgC K mg C) (h1 : HasM P w K mg base CX0 k C "known" ["self", "value"] (spRKn C CG)) : FnOk P w K mg base CX0 (k + 1) f fd ["self", "module"] (spRSo C CG) := by
  obtain ⟨f1, d1, G1, b1, m1⟩ := h1.ex
  refine F.ok scRSo (fun vs H Q E h => by obtain ⟨_, _, _, _, _, _, rfl, _⟩ := h; rfl) (fun cdv A outer s H vs Q E hr h => ?_)
  obtain ⟨x, m, HB, A', U, R, rfl, rg, hm, q⟩ := h
  have hu := hu_of hr
  refine ⟨_, pss_one (ps_ret (pe_dget hu (pe_fld (pv 0) rfl) (pe_meth (E := E0) (pv 0) T.cl m1 G1 hr b1 .nil pass0 (pa_cons (pv 1) pa_nil)) (fun _ _ => rfl))), ?_⟩
  refine s_ret (ev_dgRd (x := m) (ev_fld (ev_var rfl) rg.ob T.cl T.nS (flR_S A')) ?_ (.inl rg.hS) (st_val rg.wf hm)) fun H1 e1 => q H1 e1
  exact ev_mthR (ev_var rfl) rg.ob rfl (ea_cons (ev_var rfl) ea_nil) fun H1 e1 Q q E => ⟨x, m, HB, A', U, R, rfl, rg.ex e1, hm, q⟩
end
end Cr
/-! data that are drawn: expressions by the data that they give, beside a pot -/
namespace Cr
open PySem PySem.Spec PyProof.Rows L2 Evl
def EvP (p : Addr) (te : TE) (σ : L2.St) (H0 : Hp) (S : PyData → Prop) : Prop := ∀ H, Drew p H0 H → ∀ Q : VK, (∀ v d H2, Drew p H H2 → S d → Dt (wo p H2) v d → Q v H2) → te σ H Q
def EvPA (p : Addr) (ta : TA) (σ : L2.St) (H0 : Hp) (S : List PyData → Prop) : Prop := ∀ H, Drew p H0 H → ∀ Q : List V → Hp → Prop, (∀ vs ds H2, Drew p H H2 → S ds → DtAll (wo p H2) vs ds → Q vs H2) → ta σ H Q
theorem Drew.dt {p : Addr} {H H' : Hp} {v : V} {d : PyData} (r : Drew p H H') (h : Dt (wo p H) v d) : Dt (wo p H') v d := Dt.ex r.ex h
theorem dt_wo {p : Addr} {H : Hp} {v : V} {d : PyData} (h : Dt (wo p H) v d) : Dt H v d := Dt.ex (wo_ex p H) h
/-- a new object beside the pot -/
theorem Drew.put {p l : Addr} {H H' : Hp} {o : HO} (r : Drew p H H') (z : H' l = none) : Drew p H (upd H' l o) ∧ l ≠ p ∧ wo p (upd H' l o) l = some o := by
  have n := r.neq z
  exact ⟨r.new z, n, by rw [wo_ne n, upd_same]⟩
section
variable {p : Addr} {te ta tb : TE} {tA : TA} {σ : L2.St} {H0 : Hp} {S S' T : PyData → Prop} {SA : List PyData → Prop} {i : Nat} {E : XK}
theorem evp_mono (h : EvP p te σ H0 S) (m : ∀ d, S d → S' d) : EvP p te σ H0 S' := fun H r0 Q q => h H r0 Q fun v d H2 r s => q v d H2 r (m d s)
theorem evp_of {v : V} {d : PyData} (h : ∀ H, Ev te σ H v) (hd : ∀ H, Dt H v d) : EvP p te σ H0 (· = d) := fun H r0 Q q => h H H (Ex.refl H) Q fun H2 e => q v d H2 (Drew.of r0.pot e) rfl (hd _)
theorem evp_non : EvP p (tC .non) σ H0 (· = .none) := evp_of (fun _ => ev_c) fun _ => .non
theorem evp_str {x : Str} : EvP p (tC (.str x)) σ H0 (· = .str x) := evp_of (fun _ => ev_c) fun _ => .str x
theorem evp_int {j : Int} : EvP p (tC (.int j)) σ H0 (· = .int j) := evp_of (fun _ => ev_c) fun _ => .int j
theorem evp_bl {b : Bool} : EvP p (tC (.bl b)) σ H0 (· = .bool b) := evp_of (fun _ => ev_c) fun _ => .bl b
theorem evp_var {v : V} {d : PyData} (h : σ[i]? = some (some v)) (hd : Dt (wo p H0) v d) : EvP p (tVar i) σ H0 (· = d) := fun H r0 Q q => ⟨v, h, q v d H (Drew.refl r0.pot) rfl (r0.dt hd)⟩
theorem evpa_nil : EvPA p tNil σ H0 (· = []) := fun H r0 Q q => q [] [] H (Drew.refl r0.pot) rfl .nil
theorem evpa_cons (h1 : EvP p te σ H0 S) (h2 : EvPA p tA σ H0 SA) : EvPA p (tCons te tA) σ H0 (fun ds => ∃ d es, ds = d :: es ∧ S d ∧ SA es) := fun H r0 Q q =>
  h1 H r0 _ fun v d H2 r2 s hv => h2 H2 (r0.trans r2) _ fun vs es H3 r3 t hvs => q (v :: vs) (d :: es) H3 (r2.trans r3) ⟨d, es, rfl, s, t⟩ (.cons (r3.dt hv) hvs)
theorem evp_lst (h : EvPA p tA σ H0 SA) (hl : ∀ ds, SA ds → ds.length ≤ 1000) : EvP p (tLst tA) σ H0 (fun d => ∃ ds, d = .list ds ∧ SA ds) := fun H r0 Q q =>
  h H r0 _ fun vs ds H2 r s hv => ⟨Nat.le_trans (Nat.le_of_eq (dtAll_len hv)) (Nat.le_trans (hl ds s) (by decide)), fun l zl => by
    obtain ⟨r2, n, w⟩ := r.put (o := .lst vs) zl
    exact q (.ref l) (.list ds) _ r2 ⟨ds, rfl, s⟩ (.lst w (DtAll.ex (Ex.wo (Ex.new zl)) hv))⟩
theorem evp_tup (h : EvPA p tA σ H0 SA) (hl : ∀ ds, SA ds → ds.length ≤ 1000) : EvP p (tTup tA) σ H0 (fun d => ∃ ds, d = .tuple ds ∧ SA ds) := fun H r0 Q q =>
  h H r0 _ fun vs ds H2 r s hv => ⟨Nat.le_trans (Nat.le_of_eq (dtAll_len hv)) (Nat.le_trans (hl ds s) (by decide)), fun l zl => by
    obtain ⟨r2, n, w⟩ := r.put (o := .tup vs) zl
    exact q (.ref l) (.tuple ds) _ r2 ⟨ds, rfl, s⟩ (.tup w (DtAll.ex (Ex.wo (Ex.new zl)) hv))⟩
/-- lists and tuples of written items -/
def EvPL (p : Addr) (ta : TA) (σ : L2.St) (H0 : Hp) (ds : List PyData) : Prop := EvPA p ta σ H0 (· = ds)
theorem evpl_nil : EvPL p tNil σ H0 [] := evpa_nil
theorem evpl_cons {d : PyData} {ds : List PyData} (h1 : EvP p te σ H0 (· = d)) (h2 : EvPL p tA σ H0 ds) : EvPL p (tCons te tA) σ H0 (d :: ds) := fun H r0 Q q =>
  h1 H r0 _ fun v d' H2 r2 s hv => h2 H2 (r0.trans r2) _ fun vs es H3 r3 t hvs => by
    subst s t
    exact q _ _ H3 (r2.trans r3) rfl (.cons (r3.dt hv) hvs)
theorem evp_lstL {ds : List PyData} (h : EvPL p tA σ H0 ds) (hl : ds.length ≤ 1000) : EvP p (tLst tA) σ H0 (· = .list ds) := evp_mono (evp_lst h fun es e => by subst e; exact hl) fun d ⟨es, e1, e2⟩ => by subst e2; exact e1
theorem evp_tupL {ds : List PyData} (h : EvPL p tA σ H0 ds) (hl : ds.length ≤ 1000) : EvP p (tTup tA) σ H0 (· = .tuple ds) := evp_mono (evp_tup h fun es e => by subst e; exact hl) fun d ⟨es, e1, e2⟩ => by subst e2; exact e1
theorem evp_dnew : EvP p tDNewK σ H0 (· = .dict []) := fun H r0 Q q => fun l zl => by
  obtain ⟨r2, n, w⟩ := (Drew.refl r0.pot).put (o := .dK []) zl
  exact q (.ref l) _ _ r2 rfl (.dct w .nil)
theorem evp_cat {S1 S2 : List PyData → Prop} (h1 : EvP p ta σ H0 (fun d => ∃ ds, d = .list ds ∧ S1 ds)) (h2 : EvP p tb σ H0 (fun d => ∃ ds, d = .list ds ∧ S2 ds)) (hl : ∀ ds es, S1 ds → S2 es → ds.length + es.length ≤ 1000) :
    EvP p (tOp rCat ta tb) σ H0 (fun d => ∃ ds es, d = .list (ds ++ es) ∧ S1 ds ∧ S2 es) := fun H r0 Q q =>
  h1 H r0 _ fun v d H2 r2 ⟨ds, ed, s1⟩ hv => h2 H2 (r0.trans r2) _ fun u e H3 r3 ⟨es, ee, s2⟩ hu => by
    subst ed ee
    obtain ⟨a, xs, rfl, ha, hx⟩ := dt_lst (r3.dt hv)
    obtain ⟨b, ys, rfl, hb, hy⟩ := dt_lst hu
    refine ⟨a, b, xs, ys, rfl, rfl, (wo_some ha).2, (wo_some hb).2, Nat.le_trans (by rw [dtAll_len hx, dtAll_len hy]; exact hl ds es s1 s2) (by decide), fun l zl => ?_⟩
    obtain ⟨r4, n, w⟩ := (r2.trans r3).put (o := .lst (xs ++ ys)) zl
    exact q (.ref l) _ _ r4 ⟨ds, es, rfl, s1, s2⟩ (.lst w (DtAll.ex (Ex.wo (Ex.new zl)) (dtAll_app hx hy)))
/-! ### draws -/
theorem evp_draw {b : Int} (h0 : σ[i]? = some (some (.ref p))) (hb : ∀ H, Ev tb σ H (.int b)) (b0 : 0 < b) (b1 : b.natAbs.log2 < 9000) : EvP p (tCall spDraw [] E (tCons (tVar i) (tCons tb tNil))) σ H0 (fun d => ∃ j : Int, d = .int j ∧ 0 ≤ j ∧ j < b) := fun H r0 Q q =>
  ⟨.ref p, h0, hb H H (Ex.refl H) _ fun H1 e1 => ⟨p, b, rfl, b0, b1, r0.pot.ex e1, fun j H2 j0 j1 r => q (.int j) (.int j) H2 ((Drew.of r0.pot e1).trans r) ⟨j, rfl, j0, j1⟩ (.int j)⟩⟩
theorem evp_choice {SA : List PyData → Prop} (h0 : σ[i]? = some (some (.ref p))) (h : EvP p tb σ H0 (fun d => ∃ ds, d = .list ds ∧ SA ds)) (hl : ∀ ds, SA ds → 0 < ds.length ∧ ds.length ≤ 1000) :
    EvP p (tCall spChoice [] E (tCons (tVar i) (tCons tb tNil))) σ H0 (fun d => ∃ ds, SA ds ∧ d ∈ ds) := fun H r0 Q q =>
  ⟨.ref p, h0, h H r0 _ fun v d H2 r2 ⟨ds, ed, s⟩ hv => by
    subst ed
    obtain ⟨a, xs, rfl, ha, hx⟩ := dt_lst hv
    obtain ⟨n, ha'⟩ := wo_some ha
    have l1 := dtAll_len hx
    have l2 := hl ds s
    refine ⟨p, r2.pot, .inl ⟨a, xs, rfl, n, ha', by omega, by omega, fun v H3 hv r3 => ?_⟩⟩
    obtain ⟨d, hd, hdt⟩ := dtAll_mem' hx hv
    exact q v d H3 (r2.trans r3) ⟨ds, s, hd⟩ (r3.dt hdt)⟩
/-! ### statements -/
theorem q_asgP {D : Ends} {tz : TS} {j : Nat} (h : EvP p te σ H0 S) (pot : Pot H0 p) (k : ∀ v d H1, Drew p H0 H1 → S d → Dt (wo p H1) v d → tz D (σ.set j (some v)) H1) : tSeq (tAsg te (gName j)) tz D σ H0 := h H0 (Drew.refl pot) _ k
/-- a, b = .. -/
theorem q_parP {D : Ends} {tz : TS} {j k : Nat} (h1 : EvP p ta σ H0 S) (h2 : EvP p tb σ H0 T) (pot : Pot H0 p) (q : ∀ v w d e H1, Drew p H0 H1 → S d → T e → Dt (wo p H1) v d → Dt (wo p H1) w e → tz D ((σ.set j (some v)).set k (some w)) H1) : tSeq (tPar j k (tCons ta (tCons tb tNil))) tz D σ H0 :=
  h1 H0 (Drew.refl pot) _ fun v d H1 r1 s hv => h2 H1 r1 _ fun w e H2 r2 t hw => ⟨v, w, rfl, q v w d e H2 (r1.trans r2) s t (r2.dt hv) hw⟩
end
/-! ### n == j, n a number in a variable -/
end Cr
/-! graphs of needs: what changes, as a rule for each change -/
namespace Cr
open PySem PySem.Spec PyProof.Rows L2 Evl
theorem But.more {l l' : List Addr} {H H' : Hp} (b : But l H H') (h : ∀ a ∈ l, a ∈ l') : But l' H H' := fun a o n z => b a o (fun m => n (h a m)) z
theorem rec_of {C CN x : Addr} {n : Nat} {s t : Str} {A : NdA} {U : List Str} {g : List Row} {H : Hp} {Q : VK} {E : XK} (nd : NdAt C H x A U g) (n1 : 1 ≤ n) (hs : s ∈ U) (ht : t ∈ U)
    (k : ∀ b g' H', But [A.dd] H H' → NdAt C H' x A U g' → (∀ q : Pr, q.2 ∈ tgS g' q.1 ↔ (q = (s, t) ∨ q.2 ∈ tgS g q.1)) → (∀ r ∈ g', r ∈ g ∨ H r.a = none) → Q (.bl b) H') : spRecord C CN n [.ref x, .str s, .str t] H Q E := by
  have ns0 := nd.ok.un s hs
  have nt0 := nd.ok.un t ht
  have cpn : ∀ {z : Str}, cpyTo n (.str z) := ⟨rfl, by show 0 < n; omega⟩
  refine ⟨x, .str s, .str t, .str s, .str t, A, U, g, rfl, nd, .str s, .str t, sm_name ns0, sm_name nt0, cpn, cpn, fun z => ?_, fun _ z => ?_, fun _ _ => ⟨s, t, rfl, rfl, hs, ht, fun mem H1 e1 => ?_, fun mem l H1 zl b1 nd1 => ?_⟩⟩
  · rw [show isName (.str s) = true from ns0] at z; cases z
  · rw [show isName (.str t) = true from nt0] at z; cases z
  · refine k false g H1 (But.of e1) (nd.ex e1) (fun q' => ⟨.inr, ?_⟩) fun r hr => .inl hr
    rintro (h | h)
    · rw [h]; exact mem
    · exact h
  · refine k true _ H1 b1 nd1 (fun q' => ?_) fun r hr => ?_
    · rw [tgS_put]
      show q'.2 ∈ (if s = q'.1 then srtS (tgS g s ++ [t]) else tgS g q'.1) ↔ _
      by_cases h : s = q'.1
      · rw [if_pos h, (srtS_perm _).mem_iff, List.mem_append, List.mem_singleton, h]
        constructor
        · rintro (z | z)
          · exact .inr z
          · exact .inl (Prod.ext rfl z)
        · rintro (z | z)
          · exact .inr (by rw [z])
          · exact .inl z
      · rw [if_neg h]
        constructor
        · exact .inr
        · rintro (z | z)
          · exact absurd (by rw [z]) h
          · exact z
    · rcases mem_put hr with rfl | hr
      · exact .inr zl
      · exact .inl hr
theorem delAll_of {C x : Addr} {s : Str} {A : NdA} {U : List Str} {g : List Row} {H : Hp} {Q : VK} {E : XK} (nd : NdAt C H x A U g) (hs : isNameS s = true)
    (k : ∀ g' H', But [A.dd] H H' → NdAt C H' x A U g' → (∀ q : Pr, q.2 ∈ tgS g' q.1 ↔ (q.2 ∈ tgS g q.1 ∧ q.1 ≠ s)) → (∀ r ∈ g', r ∈ g) → Q (.int ((tgS g s).length : Int)) H') : spDelAll C [.ref x, .str s] H Q E := by
  refine ⟨x, .str s, .str s, A, U, g, rfl, nd, .str s, sm_name hs, fun z H1 e1 => ?_, fun s' es hne H1 b1 nd1 => ?_⟩
  · have z' : tgS g s = [] := z
    have y := k g H1 (But.of e1) (nd.ex e1) (fun q' => ⟨fun a => ⟨a, fun e => by rw [e, z'] at a; exact nomatch a⟩, fun a => a.1⟩) fun r hr => hr
    rw [z'] at y
    exact y
  · cases es
    refine k _ H1 b1 nd1 (fun q' => ?_) fun r hr => (List.mem_filter.mp hr).1
    rw [tgS_drop]
    by_cases h : q'.1 = s
    · rw [if_pos h]
      exact ⟨fun a => (nomatch a), fun a => absurd h a.2⟩
    · rw [if_neg h]
      exact ⟨fun a => ⟨a, h⟩, fun a => a.1⟩
/-- a graph that a heap does not know -/
structure NewG (C : Addr) (H0 H : Hp) (x : Addr) (A : NdA) (U : List Str) (g : List Row) : Prop where
  nd : NdAt C H x A U g
  zx : H0 x = none
  zd : H0 A.dd = none
  za : ∀ r ∈ g, H0 r.a = none
theorem drew_but {p : Addr} {H0 H H' : Hp} {l : List Addr} (r : Drew p H0 H) (pot : Pot H0 p) (b : But l H H') (hl : ∀ a ∈ l, H0 a = none) : Drew p H0 H' := by
  refine ⟨fun a o z => ?_, ?_⟩
  · obtain ⟨n, z⟩ := wo_some z
    rw [wo_ne n]
    exact b a o (fun m => by rw [hl a m] at z; cases z) (r.at n z)
  · obtain ⟨i, j, hp, h'⟩ := r.pot
    refine ⟨i, j, b p _ (fun m => ?_) hp, h'⟩
    obtain ⟨_, _, hp0, _⟩ := pot
    rw [hl p m] at hp0
    cases hp0
theorem NewG.drew {C : Addr} {H0 H H' : Hp} {p x : Addr} {A : NdA} {U : List Str} {g : List Row} (h : NewG C H0 H x A U g) (r : Drew p H H') (pot : Pot H p) : NewG C H0 H' x A U g := ⟨h.nd.drew r pot, h.zx, h.zd, h.za⟩
theorem NewG.ex {C : Addr} {H0 H H' : Hp} {x : Addr} {A : NdA} {U : List Str} {g : List Row} (h : NewG C H0 H x A U g) (r : Ex H H') : NewG C H0 H' x A U g := ⟨h.nd.ex r, h.zx, h.zd, h.za⟩
/-- Needs(): a new graph without needs -/
theorem new_of {C : Addr} {U : List Str} {H : Hp} {Q : VK} (hU : ∀ n ∈ U, isNameS n = true) (lU : U.length ≤ 62) (k : ∀ x A H', Ex H H' → NewG C H H' x A U [] → Q (.ref x) H') {x dx dd : Addr} {H3 : Hp} (zx : H x = none) (zdx : H dx = none) (nxd : dx ≠ x) (zdd : (upd (upd H dx (.own x)) x (.ins C dx [])) dd = none) (ndx : dd ≠ x) (eH3 : H3 = upd (upd (upd (upd H dx (.own x)) x (.ins C dx [])) dd (.dK [])) x (.ins C dx [("needed", .ref dd)])) : Q (.ref x) H3 := by
  have zdd2 : H dd = none := by
    rw [upd_ne ndx] at zdd
    by_cases e : dd = dx
    · rw [e, upd_same] at zdd; cases zdd
    · rw [upd_ne e] at zdd; exact zdd
  have e23 : Ex H H3 := fun b o hb => by
    rw [eH3, upd_ne (ne_of_none hb zx), upd_ne (ne_of_none hb zdd2), upd_ne (ne_of_none hb zx), upd_ne (ne_of_none hb zdx)]
    exact hb
  have x3 : H3 x = some (.ins C dx [("needed", .ref dd)]) := by rw [eH3, upd_same]
  have d3' : H3 dd = some (.dK ((([] : List Row)).map kvR)) := by rw [eH3, upd_ne ndx, upd_same]; rfl
  exact k x ⟨dx, dd⟩ H3 e23 ⟨⟨x3, d3', by simp, ⟨hU, lU, List.nodup_nil, List.nodup_nil, by simp, by simp, by simp, by simp⟩⟩, zx, zdd2, by simp⟩
end Cr
/-! graphs of needs: what changes, a need deleted -/
/-! graphs of needs: the shortest paths from a name -/
namespace Cr
open PySem PySem.Spec PyProof.Rows L2 Evl
abbrev sNSh : Stmt := inClass (topS 18) 13
abbrev nNSh : List Str := ["self", "name", "found", "reached", "latest", "longer", "path", "target"]
theorem scNSh : FnScope nNSh ["self", "name"] (defScope sNSh) := ⟨rfl, rfl, rfl, by decide +kernel, rfl, by decide +kernel, by decide +kernel⟩
/-- lists of texts at places -/
structure PA (H : Hp) (rs : List Addr) (q : List (List Str)) : Prop where
  len : rs.length = q.length
  at_ : ∀ (k : Nat) (r : Addr) (p : List Str), rs[k]? = some r → q[k]? = some p → H r = some (.lst (p.map V.str))
theorem PA.keep {H H' : Hp} {rs : List Addr} {q : List (List Str)} (h : PA H rs q) (k : ∀ r ∈ rs, ∀ o, H r = some o → H' r = some o) : PA H' rs q := ⟨h.len, fun i r p hr hp => k r (List.mem_of_getElem? hr) _ (h.at_ i r p hr hp)⟩
theorem PA.ex {H H' : Hp} {rs : List Addr} {q : List (List Str)} (h : PA H rs q) (e : Ex H H') : PA H' rs q := h.keep fun r _ o => e r o
theorem PA.push {H : Hp} {rs : List Addr} {q : List (List Str)} {z : Addr} {p : List Str} (h : PA H rs q) (hz : H z = some (.lst (p.map V.str))) : PA H (rs ++ [z]) (q ++ [p]) := by
  refine ⟨by rw [List.length_append, List.length_append, h.len]; rfl, fun k r p' hr hp => ?_⟩
  by_cases hk : k < rs.length
  · rw [List.getElem?_append_left hk] at hr
    rw [List.getElem?_append_left (by rw [← h.len]; exact hk)] at hp
    exact h.at_ k r p' hr hp
  · rw [List.getElem?_append_right (by omega)] at hr
    rw [List.getElem?_append_right (by rw [← h.len]; omega), ← h.len] at hp
    have k0 : k - rs.length = 0 := by
      by_cases e : k - rs.length = 0
      · exact e
      · rw [List.getElem?_eq_none (by show 1 ≤ _; omega)] at hr; cases hr
    rw [k0] at hr hp
    cases hr
    cases hp
    exact hz
theorem PA.nil {H : Hp} : PA H [] [] := ⟨rfl, fun k r p hr _ => by rw [List.getElem?_nil] at hr; cases hr⟩
def kT (t : Str) : Key × V := (Sum.inr t, .bl true)
theorem kT_any (ts : List Str) (t : Str) : ((ts.map kT).any fun kv => decide (kv.1 = Sum.inr t)) = decide (t ∈ ts) := by
  rw [Bool.eq_iff_iff, List.any_eq_true, decide_eq_true_eq]
  constructor
  · rintro ⟨kv, hm, h⟩
    obtain ⟨u, hu, rfl⟩ := List.mem_map.mp hm
    have e : u = t := Sum.inr.inj (of_decide_eq_true h)
    rw [← e]; exact hu
  · exact fun h => ⟨kT t, List.mem_map_of_mem h, decide_eq_true rfl⟩
theorem kT_put {ts : List Str} {t : Str} (h : t ∉ ts) : putK (ts.map kT) (Sum.inr t) (.bl true) = (ts ++ [t]).map kT := by
  unfold putK
  rw [kT_any, decide_eq_false h, if_neg Bool.false_ne_true, List.map_append]
  rfl
theorem kT_val (ts : List Str) (t : Str) : (valV (ts.map kT) (Sum.inr t)).isSome = decide (t ∈ ts) := by rw [← valV_any, kT_any]
/-- while the paths grow -/
structure Bf (H0 H : Hp) (f dr lg : Addr) (rs ns : List Addr) (q : List (List Str)) : Prop where
  fr : Ex H0 H
  hf : H f = some (.lst (rs.map V.ref))
  hd : H dr = some (.dK ((lasts q).map kT))
  hl : H lg = some (.lst (ns.map V.ref))
  pa : PA H (rs ++ ns) q
  zf : H0 f = none
  zd : H0 dr = none
  zl : H0 lg = none
  nfl : f ≠ lg
  nr : ∀ r ∈ rs ++ ns, r ≠ f ∧ r ≠ lg ∧ H0 r = none
section
variable {H0 H H1 H2 : Hp} {f dr lg : Addr} {rs ns : List Addr} {q : List (List Str)}
theorem Bf.fd (b : Bf H0 H f dr lg rs ns q) : f ≠ dr := fun e => by have z := b.hf; rw [e, b.hd] at z; cases z
theorem Bf.ld (b : Bf H0 H f dr lg rs ns q) : lg ≠ dr := fun e => by have z := b.hl; rw [e, b.hd] at z; cases z
theorem Bf.ex (b : Bf H0 H f dr lg rs ns q) (e : Ex H H1) : Bf H0 H1 f dr lg rs ns q := ⟨b.fr.trans e, e _ _ b.hf, e _ _ b.hd, e _ _ b.hl, b.pa.ex e, b.zf, b.zd, b.zl, b.nfl, b.nr⟩
theorem Bf.rd (b : Bf H0 H f dr lg rs ns q) {r : Addr} (hr : r ∈ rs ++ ns) : r ≠ dr := fun e => by
  obtain ⟨k, hk, e'⟩ := List.mem_iff_getElem.mp hr
  have hk2 : k < q.length := by rw [← b.pa.len]; exact hk
  have z := b.pa.at_ k r q[k] (by rw [List.getElem?_eq_getElem hk, e']) (List.getElem?_eq_getElem hk2)
  rw [e, b.hd] at z
  cases z
/-- one path more -/
theorem Bf.push {t : Str} {p : List Str} {Z : Addr} (b : Bf H0 H f dr lg rs ns q) (h1 : H1 = upd H dr (.dK ((lasts q ++ [t]).map kT))) (e2 : Ex H1 H2) (zz : H1 Z = none) (hz : H2 Z = some (.lst ((p ++ [t]).map V.str))) :
    Bf H0 (upd H2 lg (.lst ((ns ++ [Z]).map V.ref))) f dr lg rs (ns ++ [Z]) (q ++ [p ++ [t]]) := by
  have k1 : ∀ {c : Addr} {o : HO}, c ≠ dr → H c = some o → H1 c = some o := fun n h => by rw [h1, upd_ne n]; exact h
  have k3 : ∀ {c : Addr} {o : HO}, c ≠ dr → c ≠ lg → H c = some o → (upd H2 lg (.lst ((ns ++ [Z]).map V.ref))) c = some o := fun n m h => by rw [upd_ne m]; exact e2 _ _ (k1 n h)
  have zl2 : lg ≠ Z := fun e => by rw [← e, k1 b.ld b.hl] at zz; cases zz
  have zf2 : f ≠ Z := fun e => by rw [← e, k1 b.fd b.hf] at zz; cases zz
  have z0 : H0 Z = none := by
    cases hh : H0 Z with
    | none => rfl
    | some o =>
      have n : Z ≠ dr := fun e => by rw [e, b.zd] at hh; cases hh
      rw [k1 n (b.fr _ _ hh)] at zz
      cases zz
  refine ⟨fun c o hc => ?_, k3 b.fd b.nfl b.hf, ?_, upd_same, ?_, b.zf, b.zd, b.zl, b.nfl, fun r hr => ?_⟩
  · exact k3 (fun e => by rw [e, b.zd] at hc; cases hc) (fun e => by rw [e, b.zl] at hc; cases hc) (b.fr _ _ hc)
  · rw [upd_ne b.ld.symm]
    have e : lasts (q ++ [p ++ [t]]) = lasts q ++ [t] := by
      rw [lasts_app]
      show lasts q ++ [lastP (p ++ [t])] = _
      rw [lastP_app]
    rw [e]
    exact e2 _ _ (by rw [h1, upd_same])
  · rw [← List.append_assoc]
    refine (b.pa.keep fun r hr o ho => k3 (b.rd hr) (b.nr r hr).2.1 ho).push ?_
    rw [upd_ne zl2.symm]
    exact hz
  · rw [← List.append_assoc] at hr
    rcases List.mem_append.mp hr with hr | hr
    · exact b.nr r hr
    · rw [List.mem_singleton.mp hr]
      exact ⟨zf2.symm, zl2.symm, z0⟩
end
end Cr
/-! graphs of needs: the shortest paths from a name -/
namespace Cr
open PySem PySem.Spec PyProof.Rows L2 Evl
def spShort (C : Addr) : Sp := fun vs H Q _ => ∃ x a A U g, vs = [.ref x, .str a] ∧ NdAt C H x A U g ∧ isNameS a = true ∧ ∀ l rs H', H l = none → Ex H H' → H' l = some (.lst (rs.map V.ref)) → PA H' rs (pathsP (tgS g) a) → (∀ r ∈ rs, r ≠ l ∧ H r = none) → Q (.ref l) H'
section
variable {P : Program} {w : World} {K : PySem.W.Frag} {mg : Str → Option Value} {base : Heap}
theorem ok_short {f C : Addr} {fd : FuncData} {k : Nat} (F : Fun K "shortest_paths" "Needs.shortest_paths" sNSh f fd) (B : Blt mg) (T : NdC K mg C) (h1 : HasO P w K mg base k "bare_word" ["word"] spBareW) (h2 : HasM P w K mg base CX0 k C "targets" ["self", "name"] (spTargets C)) : FnOk P w K mg base CX0 (k + 1) f fd ["self", "name"] (spShort C) := by
  obtain ⟨f1, d1, G1, b1, k1, g1⟩ := h1.ex
  obtain ⟨f2, d2, G2, b2, m2⟩ := h2.ex
  refine F.ok scNSh (fun vs H Q E h => by obtain ⟨_, _, _, _, _, rfl, _⟩ := h; rfl) (fun cdv A outer s H vs Q E hr h => ?_)
  obtain ⟨x, a, A', U, g, rfl, nd, na, q⟩ := h
  have hu := hu_of hr
  refine ⟨_, pss_cons (ps_set (i := 2) scNSh.nd rfl (.inl rfl) (pe_lst pa_nil))
    (pss_cons (ps_set (i := 3) scNSh.nd rfl (.inl rfl) (pe_disp (pps_cons (pv 1) pe_bl pps_nil) rfl rfl (by simp) (by decide)))
    (pss_cons (ps_set (i := 4) scNSh.nd rfl (.inl rfl) (pe_lst (pa_cons (pe_lst (pa_cons (pe_call (E := E0) G1 hr (by rfl) g1 k1 b1 .nil pass0 (pa_cons (pv 1) pa_nil)) pa_nil)) pa_nil)))
    (pss_cut (ps_while PassesOwn.never (pt_cmpR op_gt (pe_callB call_len_seq (by rfl) B.len bLen (pa_cons (pv 4) pa_nil)) pe_int (nomark _))
      (pss_cons (ps_aug (i := 2) scNSh.nd rfl (.inl rfl) (pv 4) iop_ext)
      (pss_cons (ps_set (i := 5) scNSh.nd rfl (.inl rfl) (pe_lst pa_nil))
      (pss_cut (ps_for PassesOwn.never rfl (pi_list (pv 4)) (pg_name (i := 6) scNSh.nd rfl (.inl rfl))
        (pss_one (ps_for PassesOwn.never rfl (pi_list (pe_meth (E := E0) (pv 0) T.cl m2 G2 hr b2 .nil pass0 (pa_cons (pe_ix ix_list (pv 6) (pe_un un_neg pe_int) (fun _ _ => rfl)) pa_nil))) (pg_name (i := 7) scNSh.nd rfl (.inl rfl))
          (pss_one (ps_if (pt_cmp (pc_dnotin hu (pv 7) (pv 3)))
            (pss_cons (ps_dput hu (pv 3) (pv 7) pe_bl rfl)
            (pss_one (ps_expr (pe_bm PySem.F.plainAttrs_list PySem.F.slot_list_append PySem.F.type_list_append mt_append (pv 5) (pa_cons (pe_op op_cat (pv 6) (pe_lst (pa_cons (pv 7) pa_nil))) pa_nil))))) pss_nil)))))
      (pss_one (ps_set (i := 4) scNSh.nd rfl (.inl rfl) (pv 5)))))))
    (pss_one (ps_ret (pv 2)))))), ?_⟩
  have hT : ∀ s t, t ∈ tgS g s → t ∈ U := fun s t m => (nd.ok.tgU m).2
  have few := fun i => run_few (a := a) hT nd.ok.uf i
  have la1 : a.length ≤ 1000 := by
    have := sm_name na
    rw [sm] at this
    exact of_decide_eq_true this
  refine ⟨by show 0 ≤ sizeLine; decide, fun f zf => ?_⟩
  refine fun dr zd => ⟨.str a, rfl, upd_same, [kT a], rfl, by show 1 ≤ 15; decide, ?_⟩
  refine ⟨.str a, rfl, a, rfl, la1, fun H1 e1 => ⟨by show 1 ≤ sizeLine; decide, fun r0 zr => ⟨by show 1 ≤ sizeLine; decide, fun la zl => ?_⟩⟩⟩
  dsimp only
  have ndf : dr ≠ f := fun e => by rw [e, upd_same] at zd; cases zd
  have zd0 : H dr = none := by rw [upd_ne ndf] at zd; exact zd
  have hf1 : H1 f = some (.lst []) := e1 _ _ (by rw [upd_ne ndf.symm, upd_ne ndf.symm, upd_same])
  have hd1 : H1 dr = some (.dK [kT a]) := e1 _ _ upd_same
  have x1 : Ex H H1 := fun c o hc => e1 _ _ (by rw [upd_ne (ne_of_none hc zd0), upd_ne (ne_of_none hc zd0), upd_ne (ne_of_none hc zf)]; exact hc)
  have e2 : Ex H1 (upd H1 r0 (.lst [.str a])) := Ex.new zr
  have e3 : Ex (upd H1 r0 (.lst [.str a])) (upd (upd H1 r0 (.lst [.str a])) la (.lst [.ref r0])) := Ex.new zl
  have x3 := (x1.trans e2).trans e3
  have B0 : Bf H (upd (upd H1 r0 (.lst [.str a])) la (.lst [.ref r0])) f dr la [] [r0] (runP (tgS g) a 0) := by
    have nl : f ≠ la := ne_of_none (e2 _ _ hf1) zl
    have rl : r0 ≠ la := ne_of_none upd_same zl
    refine ⟨x3, e3 _ _ (e2 _ _ hf1), e3 _ _ (e2 _ _ hd1), upd_same, ?_, zf, zd0, fresh_back (x1.trans e2) zl, nl, fun r hr => ?_⟩
    · exact PA.nil.push (by rw [upd_ne rl]; exact upd_same)
    · rw [List.mem_singleton.mp hr]
      exact ⟨(ne_of_none hf1 zr).symm, rl, fresh_back x1 zr⟩
  generalize upd (upd H1 r0 (.lst [.str a])) la (.lst [.ref r0]) = H3 at B0
  have nm : ∀ {i : Nat} {p : List Str}, p ∈ runP (tgS g) a i → isNameS (lastP p) = true := fun hp => by
    cases run_reach (List.mem_map_of_mem hp) with
    | refl => exact na
    | step _ m => exact nd.ok.un _ (hT _ _ m)
  show tCut _ _ _ [some (.ref x), some (.str a), some (.ref f), some (.ref dr), some (.ref la), none, none, none] H3
  refine q_cut (M := fun σ H' => ∃ la rs y5 y6 y7, σ = [some (.ref x), some (.str a), some (.ref f), some (.ref dr), some (.ref la), y5, y6, y7] ∧ Bf H H' f dr la rs [] (runP (tgS g) a rs.length)) ?_ ?_
  rotate_left
  · rintro σ H4 ⟨la4, rs, y5, y6, y7, rfl, b⟩
    have pa := b.pa
    rw [List.append_nil] at pa
    have ie := run_is (a := a) hT nd.ok.uf (i := rs.length) (by rw [← pa.len]; exact Nat.le_refl _)
    rw [ie] at pa
    exact ⟨.ref f, rfl, q f rs H4 b.zf b.fr b.hf pa fun r hr => ⟨(b.nr r (List.mem_append_left _ hr)).1, (b.nr r (List.mem_append_left _ hr)).2.2⟩⟩
  refine s_while (fun m σ H' => ∃ la rs ns y5 y6 y7, σ = [some (.ref x), some (.str a), some (.ref f), some (.ref dr), some (.ref la), y5, y6, y7] ∧ Bf H H' f dr la rs ns (runP (tgS g) a rs.length) ∧ m + rs.length = 64) 64 ⟨la, [], [r0], none, none, none, rfl, B0, rfl⟩ ?_
  rintro m σ H4 ⟨la4, rs, ns, y5, y6, y7, rfl, b, hm⟩
  refine ⟨decide ((0 : Int) < ((ns.map V.ref).length : Int)), et_test (ev_op (ev_cb (ea_cons (ev_var rfl) ea_nil) (rc_lenL (sq_of b.hl))) ev_c rv_I0), fun hb H5 e5 => ?_, fun hb H5 e5 => ?_⟩
  rotate_left
  · have hb' := of_decide_eq_false hb
    rw [List.length_map] at hb'
    have n0 : ns = [] := List.length_eq_zero_iff.mp (by omega)
    subst n0
    exact ⟨la4, rs, y5, y6, y7, rfl, b.ex e5⟩
  have hb' := of_decide_eq_true hb
  rw [List.length_map] at hb'
  have b5 := b.ex e5
  have qn : (rs ++ ns).length = (runP (tgS g) a rs.length).length := b.pa.len
  have lrn : (rs ++ ns).length = rs.length + ns.length := List.length_append
  have q63 := few rs.length
  refine ⟨fun σ' H' => ∃ la' ns' y5 y6 y7, σ' = [some (.ref x), some (.str a), some (.ref f), some (.ref dr), some (.ref la'), y5, y6, y7] ∧ Bf H H' f dr la' (rs ++ ns) ns' (runP (tgS g) a (rs ++ ns).length), fun σ2 H2 ⟨la', ns', y5, y6, y7, e1, b2⟩ => ⟨64 - (rs ++ ns).length, by omega, la', rs ++ ns, ns', y5, y6, y7, e1, b2, by omega⟩, ?_⟩
  refine ⟨.ref f, rfl, .ref la4, rfl, f, la4, rs.map V.ref, ns.map V.ref, rfl, rfl, b5.hf, b5.hl, by rw [List.length_map, List.length_map, sizeLine_eq]; omega, ?_⟩
  refine ⟨by show 0 ≤ sizeLine; decide, fun lg zg => ?_⟩
  have mp : rs.map V.ref ++ ns.map V.ref = (rs ++ ns).map V.ref := by rw [List.map_append]
  rw [mp] at zg ⊢
  have kp : ∀ {c : Addr} {o : HO}, c ≠ f → H5 c = some o → (upd (upd H5 f (.lst ((rs ++ ns).map V.ref))) lg (.lst [])) c = some o := fun {c o} n h => by
    have h' : (upd H5 f (.lst ((rs ++ ns).map V.ref))) c = some o := by rw [upd_ne n]; exact h
    rw [upd_ne (ne_of_none h' zg)]
    exact h'
  have ngf : f ≠ lg := ne_of_none (upd_same (H := H5)) zg
  have b6 : Bf H (upd (upd H5 f (.lst ((rs ++ ns).map V.ref))) lg (.lst [])) f dr lg (rs ++ ns) [] (runP (tgS g) a rs.length) := by
    refine ⟨fun c o hc => kp (ne_of_none hc b.zf) (b5.fr _ _ hc), by rw [upd_ne ngf, upd_same], kp b5.fd.symm b5.hd, upd_same, ?_, b.zf, b.zd, ?_, ngf, fun r hr => ?_⟩
    · rw [List.append_nil]
      exact b5.pa.keep fun r hr o ho => kp (b5.nr r hr).1 ho
    · cases hh : H lg with
      | none => rfl
      | some o =>
        have h' : (upd H5 f (.lst ((rs ++ ns).map V.ref))) lg = some o := by rw [upd_ne ngf.symm]; exact b5.fr _ _ hh
        rw [h'] at zg
        cases zg
    · rw [List.append_nil] at hr
      obtain ⟨h1, h2, h3⟩ := b5.nr r hr
      obtain ⟨k', hk', e'⟩ := List.mem_iff_getElem.mp hr
      have hk2 : k' < (runP (tgS g) a rs.length).length := by rw [← qn]; exact hk'
      have z := b5.pa.at_ k' r _ (by rw [List.getElem?_eq_getElem hk', e']) (List.getElem?_eq_getElem hk2)
      exact ⟨h1, ne_of_none (show (upd H5 f (.lst ((rs ++ ns).map V.ref))) r = _ by rw [upd_ne h1]; exact z) zg, h3⟩
  have hla6 := kp b5.nfl.symm b5.hl
  have nlg : la4 ≠ lg := ne_of_none (show (upd H5 f (.lst ((rs ++ ns).map V.ref))) la4 = _ by rw [upd_ne b5.nfl.symm]; exact b5.hl) zg
  generalize (upd (upd H5 f (.lst ((rs ++ ns).map V.ref))) lg (.lst [])) = H6 at b6 hla6
  show tCut _ _ _ [some (.ref x), some (.str a), some (.ref f), some (.ref dr), some (.ref la4), some (.ref lg), y6, y7] H6
  refine q_cut (M := fun σ H' => ∃ ns' y6 y7, σ = [some (.ref x), some (.str a), some (.ref f), some (.ref dr), some (.ref la4), some (.ref lg), y6, y7] ∧ Bf H H' f dr lg (rs ++ ns) ns' (runP (tgS g) a (rs ++ ns).length)) ?_ ?_
  rotate_left
  · rintro σ H7 ⟨ns', y6, y7, rfl, b7⟩
    exact ⟨.ref lg, rfl, lg, ns', _, _, _, rfl, b7⟩
  refine s_forL (a := la4) (xs := ns.map V.ref) (ev_var rfl) (sq_of hla6) (fun j σ' H' => ∃ ns' y6 y7, σ' = [some (.ref x), some (.str a), some (.ref f), some (.ref dr), some (.ref la4), some (.ref lg), y6, y7] ∧ Bf H H' f dr lg (rs ++ ns) ns' (runP (tgS g) a (rs.length + j)) ∧ H' la4 = some (.lst (ns.map V.ref)))
    (fun H7 e7 => ⟨[], y6, y7, rfl, b6.ex e7, e7 _ _ hla6⟩) (fun i σ' H' _ ⟨_, _, _, _, _, z⟩ => sq_of z) ?_ ?_
  rotate_left
  · rintro σ' H7 ⟨ns', y6, y7, rfl, b7, _⟩
    rw [List.length_map] at b7
    rw [← lrn] at b7
    exact ⟨ns', y6, y7, rfl, b7⟩
  rintro j v σ' H7 hj ⟨ns', y6', y7', rfl, b7, hla7⟩
  rw [List.getElem?_map] at hj
  obtain ⟨r, hr', rfl⟩ : ∃ r, ns[j]? = some r ∧ V.ref r = v := by
    cases hh : ns[j]? with
    | none => rw [hh] at hj; cases hj
    | some r => rw [hh] at hj; exact ⟨r, rfl, Option.some.inj hj⟩
  have jl : j < ns.length := by
    by_cases h : j < ns.length
    · exact h
    · rw [List.getElem?_eq_none (by omega)] at hr'; cases hr'
  have rat : ((rs ++ ns) ++ ns')[rs.length + j]? = some r := by
    rw [List.getElem?_append_left (by omega), List.getElem?_append_right (by omega), Nat.add_sub_cancel_left]
    exact hr'
  have q7 : rs.length + j < (runP (tgS g) a (rs.length + j)).length := by
    rw [← b7.pa.len, List.length_append]
    omega
  obtain ⟨p, hp⟩ : ∃ p, (runP (tgS g) a (rs.length + j))[rs.length + j]? = some p := ⟨_, List.getElem?_eq_getElem q7⟩
  have hr7 := b7.pa.at_ _ r p rat hp
  have pm := List.mem_of_getElem? hp
  have pne := run_ne pm
  have pna := nm pm
  have plen : p.length ≤ 64 := by
    have := run_len pm
    have := few (rs.length + j)
    omega
  have rmem : r ∈ (rs ++ ns) ++ ns' := List.mem_of_getElem? rat
  have nd7 := nd.ex b7.fr
  show tFor _ _ _ _ [some (.ref x), some (.str a), some (.ref f), some (.ref dr), some (.ref la4), some (.ref lg), some (.ref r), y7'] H7
  have il : Ev (tOp (rIxL K) (tVar 6) (tUn (rU fun i => V.int (-i)) (tC (V.int 1)))) [some (.ref x), some (.str a), some (.ref f), some (.ref dr), some (.ref la4), some (.ref lg), some (.ref r), y7'] H7 (.str (lastP p)) :=
    ev_op (ev_var rfl) (ev_un (z := .int (-1)) ev_c fun H1 e1 Q q => ⟨1, rfl, q H1 (Ex.refl H1)⟩) (rv_ixL (sq_of hr7) (by
      have := atI_last (p.dropLast.map V.str) (V.str (lastP p))
      have e : p.dropLast.map V.str ++ [V.str (lastP p)] = p.map V.str := by
        have := congrArg (List.map V.str) (lastP_split pne)
        rw [List.map_append] at this
        exact this
      rw [e] at this
      exact this))
  have tg : EvL (tMeth C "targets" (spTargets C) [] E0 (tVar 0) (tCons (tOp (rIxL K) (tVar 6) (tUn (rU fun i => V.int (-i)) (tC (V.int 1)))) tNil)) [some (.ref x), some (.str a), some (.ref f), some (.ref dr), some (.ref la4), some (.ref lg), some (.ref r), y7'] H7 ((tgS g (lastP p)).map V.str) := el_meth (ev_var rfl) nd7.ob rfl (ea_cons il ea_nil) (spl_targets nd7 (.str (lastP p)) (sm_name pna))
  refine s_forNL tg (fun l0 k' σ' H' => ∃ ns' y7, σ' = [some (.ref x), some (.str a), some (.ref f), some (.ref dr), some (.ref la4), some (.ref lg), some (.ref r), y7] ∧ Bf H H' f dr lg (rs ++ ns) ns' (ext ((tgS g (lastP p)).take k') p (runP (tgS g) a (rs.length + j))) ∧ H' la4 = some (.lst (ns.map V.ref)) ∧ H' l0 = some (.lst ((tgS g (lastP p)).map V.str)) ∧ H' r = some (.lst (p.map V.str)) ∧ l0 ≠ lg ∧ la4 ≠ lg ∧ r ≠ lg)
    (fun l0 H8 z8 e8 h8 => ⟨ns', y7', rfl, b7.ex e8, e8 _ _ hla7, h8, e8 _ _ hr7, (ne_of_none b7.hl z8).symm, nlg, (b7.nr r rmem).2.1⟩) (fun l0 i σ' H' _ ⟨_, _, _, _, _, z, _⟩ => sq_of z) ?_ ?_
  rotate_left
  · rintro l0 σ' H8 ⟨ns8, y7, rfl, b8, hla8, _⟩
    rw [List.length_map, List.take_length, ← run_some hp] at b8
    exact ⟨ns8, _, y7, rfl, b8, hla8⟩
  rintro l0 k' tv σ' H8 hk ⟨ns8, y7, rfl, b8, hla8, hl0, hr8, n1, n2, n3⟩
  rw [List.getElem?_map] at hk
  obtain ⟨t, ht, rfl⟩ : ∃ t, (tgS g (lastP p))[k']? = some t ∧ V.str t = tv := by
    cases hh : (tgS g (lastP p))[k']? with
    | none => rw [hh] at hk; cases hk
    | some r => rw [hh] at hk; exact ⟨r, rfl, Option.some.inj hk⟩
  show tIfS _ _ _ _ [some (.ref x), some (.str a), some (.ref f), some (.ref dr), some (.ref la4), some (.ref lg), some (.ref r), some (.str t)] H8
  refine ⟨.str t, rfl, .ref dr, rfl, dr, _, rfl, DGet.k (k := Sum.inr t) b8.hd, _, rfl, ?_⟩
  rw [kT_val]
  have ek := ext_take (p := p) (q := runP (tgS g) a (rs.length + j)) ht
  generalize eQ : ext ((tgS g (lastP p)).take k') p (runP (tgS g) a (rs.length + j)) = q8 at b8 ek ⊢
  have nod : ∀ {c : Addr} {ys : List V}, H8 c = some (.lst ys) → c ≠ dr := fun h e => by rw [e, b8.hd] at h; cases h
  by_cases mem : t ∈ lasts q8
  · rw [decide_eq_true mem]
    refine ⟨ns8, _, rfl, ?_, hla8, hl0, hr8, n1, n2, n3⟩
    rw [ek]
    unfold ext1
    rw [if_pos mem]
    exact b8
  · rw [decide_eq_false mem]
    have lq8 : (lasts q8).length ≤ 63 := by
      have : (lasts q8).length ≤ (a :: U).length := nodup_len (by rw [← eQ]; exact ext_nd (run_nd _)) fun b hb => by
        rw [← eQ] at hb
        obtain ⟨z, hz, rfl⟩ := List.mem_map.mp hb
        rcases ext_mem hz with hz | ⟨u, hu', rfl⟩
        · cases run_reach (List.mem_map_of_mem hz) with
          | refl => exact List.mem_cons_self
          | step _ m => exact List.mem_cons_of_mem _ (hT _ _ m)
        · rw [lastP_app]
          exact List.mem_cons_of_mem _ (hT _ _ (List.mem_of_mem_take hu'))
      have uf := nd.ok.uf
      rw [List.length_cons] at this
      omega
    refine ⟨.ref dr, rfl, .str t, rfl, dr, _, rfl, DPut.k (k := Sum.inr t) b8.hd (by rw [List.length_map, sizeLine_eq]; omega), ?_⟩
    rw [kT_put mem]
    have k9 : ∀ {c : Addr} {ys : List V}, H8 c = some (.lst ys) → (upd H8 dr (.dK ((lasts q8 ++ [t]).map kT))) c = some (.lst ys) := fun h => by rw [upd_ne (nod h)]; exact h
    refine ⟨.ref lg, rfl, .inl ⟨rfl, _, sq_of (k9 b8.hl)⟩, .ref r, rfl, .str t, rfl, by show 1 ≤ sizeLine; decide, fun M zM => ?_⟩
    have eM := Ex.new (o := .lst [.str t]) zM
    refine ⟨r, M, p.map V.str, [.str t], rfl, rfl, eM _ _ (k9 hr8), upd_same, by rw [List.length_map, sizeLine_eq]; show p.length + 1 ≤ _; omega, fun Z zZ => ?_⟩
    have eZ := Ex.new (o := .lst (p.map V.str ++ [.str t])) zZ
    have nsl : ns8.length ≤ 63 := by
      have l8 := b8.pa.len
      unfold lasts at lq8
      rw [List.length_map] at lq8
      rw [List.length_append] at l8
      omega
    refine ⟨lg, ns8.map V.ref, .ref Z, rfl, rfl, eZ _ _ (eM _ _ (k9 b8.hl)), sz_lt (by rw [List.length_map]; omega), ?_⟩
    have b9 := b8.push (p := p) (t := t) (Z := Z) rfl (eM.trans eZ) (fresh_back eM zZ) (by rw [upd_same, List.map_append]; rfl)
    have mz : (ns8 ++ [Z]).map V.ref = ns8.map V.ref ++ [.ref Z] := by rw [List.map_append]; rfl
    rw [mz] at b9
    have k10 : ∀ {c : Addr} {ys : List V}, c ≠ lg → H8 c = some (.lst ys) → (upd (upd (upd (upd H8 dr (.dK ((lasts q8 ++ [t]).map kT))) M (.lst [.str t])) Z (.lst (p.map V.str ++ [.str t]))) lg (.lst (ns8.map V.ref ++ [.ref Z]))) c = some (.lst ys) := fun n h => by rw [upd_ne n]; exact eZ _ _ (eM _ _ (k9 h))
    refine ⟨ns8 ++ [Z], _, rfl, ?_, k10 n2 hla8, k10 n1 hl0, k10 n3 hr8, n1, n2, n3⟩
    rw [ek]
    unfold ext1
    rw [if_neg mem]
    exact b9
end
end Cr
/-! graphs of needs: closures, who depends on whom -/
namespace Cr
open PySem PySem.Spec PyProof.Rows L2 Evl
abbrev sNClo : Stmt := inClass (topS 18) 15
abbrev sNDep : Stmt := inClass (topS 18) 14
theorem scNClo : FnScope ["self", "name", "path"] ["self", "name"] (defScope sNClo) := ⟨rfl, rfl, rfl, by decide +kernel, rfl, by decide +kernel, by decide +kernel⟩
theorem scNDep : FnScope ["self", "one", "other"] ["self", "one", "other"] (defScope sNDep) := ⟨rfl, rfl, rfl, by decide +kernel, rfl, by decide +kernel, by decide +kernel⟩
/-- all that a name needs, in order -/
def cloS (g : List Row) (a : Str) : List Str := srtS (lasts (pathsP (tgS g) a))
theorem mem_clo {U : List Str} {g : List Row} {a b : Str} (h : GOk U g) : b ∈ cloS g a ↔ Reach (tgS g) a b := by
  unfold cloS
  rw [(srtS_perm _).mem_iff]
  exact paths_done (fun s t m => (h.tgU m).2) h.uf
def spClo (C CN : Addr) (n : Nat) : Sp := fun vs H Q E => ∃ x v d A U g, vs = [.ref x, v] ∧ NdAt C H x A U g ∧ Dt H v d ∧ sm d = true ∧ cpyTo n d ∧ (isName d = false → ∀ dx H', Rsd1 H H' dx "value" d → E (.ref CN) (some dx) H') ∧
  (∀ a, d = .str a → isNameS a = true → ∀ l H', H l = none → Ex H H' → H' l = some (.lst ((cloS g a).map V.str)) → Q (.ref l) H')
def spDep (C CN : Addr) (n : Nat) : Sp := fun vs H Q E => ∃ x v u d e A U g, vs = [.ref x, v, u] ∧ NdAt C H x A U g ∧ Dt H v d ∧ Dt H u e ∧ sm d = true ∧ sm e = true ∧ cpyTo n d ∧ cpyTo n e ∧
  (isName d = false → ∀ dx H', Rsd1 H H' dx "value" d → E (.ref CN) (some dx) H') ∧ (isName d = true → isName e = false → ∀ dx H', Rsd1 H H' dx "value" e → E (.ref CN) (some dx) H') ∧
  (∀ a b, d = .str a → e = .str b → isNameS a = true → isNameS b = true → ∀ H', Ex H H' → Q (.bl (decide (b ∈ cloS g a))) H')
theorem name_str {d : PyData} (h : isName d = true) : ∃ a, d = .str a ∧ isNameS a = true := by
  cases d with
  | str a => exact ⟨a, rfl, h⟩
  | _ => exact nomatch h
section
variable {P : Program} {w : World} {K : PySem.W.Frag} {mg : Str → Option Value} {base : Heap}
theorem ok_clo {f C CN : Addr} {fd : FuncData} {k n : Nat} (F : Fun K "closure" "Needs.closure" sNClo f fd) (B : Blt mg) (T : NdC K mg C) (h0 : HasE P w K mg base k "check_name" ["value"] (spCheckN CN n)) (h1 : HasM P w K mg base CX0 k C "shortest_paths" ["self", "name"] (spShort C)) : FnOk P w K mg base (L2.CX P w) (k + 1) f fd ["self", "name"] (spClo C CN n) := by
  obtain ⟨f0, d0, G0, b0, k0, g0⟩ := h0.ex
  obtain ⟨f1, d1, G1, b1, m1⟩ := h1.ex
  refine F.okX scNClo (fun vs H Q E h => by obtain ⟨_, _, _, _, _, _, rfl, _⟩ := h; rfl) (fun cdv A outer s H vs Q E hr h => ?_)
  obtain ⟨x, v, d, A', U, g, rfl, nd, hd, hs, hc, qe, q⟩ := h
  refine ⟨_, pss_cons (ps_expr (pe_call (E := E) G0 hr (by rfl) g0 k0 b0 .nil (passes_call (takes_of rfl rfl rfl rfl) fun _ _ _ _ h => h) (pa_cons (pv 1) pa_nil)))
    (pss_one (ps_ret (pe_callB cr_sortedS (by rfl) B.sorted bSorted (pa_cons (pe_lc (own := [("path", 2)]) (g := gName 2) (tt := tYes) (te := tOp (rIxL K) (tVar 2) (tUn (rU fun i => V.int (-i)) (tC (V.int 1)))) rfl scNClo.nd (pi_list (pe_meth (E := E0) (pv 0) T.cl m1 G1 hr b1 .nil pass0 (pa_cons (pv 1) pa_nil))) (blkOk_by (own := [("path", 2)]) (N := ["self", "name", "path"]) (sc := defScope sNClo) (by decide +kernel))
      (fun _ _ _ _ _ => pg_name (i := 2) scNClo.nd rfl (Or.inl rfl)) (fun _ _ _ _ _ => pts_nil) (fun _ _ _ _ _ => by exact pe_ix ix_list (pv 2) (pe_un un_neg pe_int) (fun _ _ => rfl))) pa_nil)))), ?_⟩
  refine ⟨v, rfl, v, d, rfl, hd, hs, hc, fun n1 H1 e1 => ?_, qe⟩
  obtain ⟨a, rfl, na⟩ := name_str n1
  cases hd with
  | str =>
  have nd1 := nd.ex e1
  have hT : ∀ s t, t ∈ tgS g s → t ∈ U := fun s t m => (nd.ok.tgU m).2
  refine ⟨.ref x, rfl, x, A'.dx, _, rfl, nd1.ob, rfl, .str a, rfl, x, a, A', U, g, rfl, nd1, na, fun l rs H2 zl e2 hl pa nr => ?_⟩
  have few : (pathsP (tgS g) a).length ≤ 63 := run_few hT nd.ok.uf 64
  have pne0 : ∀ p ∈ pathsP (tgS g) a, p ≠ [] := fun p hp => run_ne hp
  unfold cloS at q
  have q' := q a rfl na
  clear q
  generalize pathsP (tgS g) a = PP at few pne0 q' pa
  have lr := pa.len
  have lc := el_lcL (K := K) (te := tOp (rIxL K) (tVar 2) (tUn (rU fun i => V.int (-i)) (tC (V.int 1)))) (t := tYes) (j := 2) (vs := [2]) (σ := [some (.ref x), some (.str a), none]) (H := H2) (fun _ => true) (fun i => .str ((lasts PP).getD i "")) (ev_c (v := .ref l)) (sq_of hl) (by rw [List.length_map]; omega) (fun _ => rfl)
    (fun i y H3 e3 hy => fun H4 _ Q q => q H4 (Ex.refl H4))
    (fun i y H3 e3 hy _ => by
      rw [List.getElem?_map] at hy
      obtain ⟨r, hr', rfl⟩ : ∃ r, rs[i]? = some r ∧ V.ref r = y := by
        cases hh : rs[i]? with
        | none => rw [hh] at hy; cases hy
        | some r => rw [hh] at hy; exact ⟨r, rfl, Option.some.inj hy⟩
      have il : i < PP.length := by
        rw [← lr]
        exact (List.getElem?_eq_some_iff.mp hr').1
      have hp := List.getElem?_eq_getElem il
      have hr2 := e3 _ _ (pa.at_ i r _ hr' hp)
      have pne : PP[i] ≠ [] := pne0 _ (List.getElem_mem il)
      have eg : (lasts PP).getD i "" = lastP PP[i] := by
        unfold lasts
        rw [List.getD_eq_getElem?_getD, List.getElem?_map, hp]
        rfl
      rw [eg]
      generalize PP[i] = p at hr2 pne
      exact ev_op (ev_var rfl) (ev_un (z := .int (-1)) ev_c fun H1 e1 Q q => ⟨1, rfl, q H1 (Ex.refl H1)⟩) (rv_ixL (sq_of hr2) (by
        have := atI_last (p.dropLast.map V.str) (V.str (lastP p))
        have e : p.dropLast.map V.str ++ [V.str (lastP p)] = p.map V.str := by
          have := congrArg (List.map V.str) (lastP_split pne)
          rw [List.map_append] at this
          exact this
        rw [e] at this
        exact this)))
  have eg : given (rs.map V.ref).length (fun _ => true) (fun i => V.str ((lasts PP).getD i "")) = (lasts PP).map V.str := by
    have ll : (rs.map V.ref).length = (lasts PP).length := by unfold lasts; rw [List.length_map, List.length_map]; exact lr
    rw [ll, given_all]
    refine List.ext_getElem? fun i => ?_
    rw [List.getElem?_map, List.getElem?_map]
    by_cases hi : i < (lasts PP).length
    · rw [List.getElem?_range hi, List.getElem?_eq_getElem hi]
      show some (V.str ((lasts PP).getD i "")) = _
      rw [List.getD_eq_getElem?_getD, List.getElem?_eq_getElem hi]
      rfl
    · rw [List.getElem?_eq_none (by rw [List.length_range]; omega), List.getElem?_eq_none (by omega)]
      rfl
  rw [eg] at lc
  refine lc H2 (Ex.refl H2) (fun v H' => rSortedS K [v] H' Q) fun L H3 zL e3 hL => ?_
  have l63 : (lasts PP).length < 64 := by unfold lasts; rw [List.length_map]; omega
  refine ⟨L, lasts PP, rfl, sq_of hL, l63, fun ys p hp hso zp => ?_⟩
  rw [sorted_is hp hso]
  exact q' p _ (fresh_back ((e1.trans e2).trans e3) zp) (((e1.trans e2).trans e3).trans (Ex.new zp)) upd_same
theorem ok_dep {f C CN : Addr} {fd : FuncData} {k n : Nat} (F : Fun K "depends" "Needs.depends" sNDep f fd) (B : Blt mg) (T : NdC K mg C) (h0 : HasE P w K mg base k "check_name" ["value"] (spCheckN CN n)) (h1 : HasM P w K mg base (L2.CX P w) k C "closure" ["self", "name"] (spClo C CN n)) : FnOk P w K mg base (L2.CX P w) (k + 1) f fd ["self", "one", "other"] (spDep C CN n) := by
  obtain ⟨f0, d0, G0, b0, k0, g0⟩ := h0.ex
  obtain ⟨f1, d1, G1, b1, m1⟩ := h1.ex
  refine F.okX scNDep (fun vs H Q E h => by obtain ⟨_, _, _, _, _, _, _, _, rfl, _⟩ := h; rfl) (fun cdv A outer s H vs Q E hr h => ?_)
  obtain ⟨x, v, u, d, e, A', U, g, rfl, nd, hd, he, hs, hs2, hc, hc2, q1, q2, q3⟩ := h
  refine ⟨_, pss_cons (ps_expr (pe_call (E := E) G0 hr (by rfl) g0 k0 b0 .nil (passes_call (takes_of rfl rfl rfl rfl) fun _ _ _ _ h => h) (pa_cons (pv 1) pa_nil)))
    (pss_cons (ps_expr (pe_call (E := E) G0 hr (by rfl) g0 k0 b0 .nil (passes_call (takes_of rfl rfl rfl rfl) fun _ _ _ _ h => h) (pa_cons (pv 2) pa_nil)))
    (pss_one (ps_ret (pe_cmpR op_in_seq (pv 2) (pe_meth (E := E) (pv 0) T.cl m1 G1 hr b1 .nil (passes_call (takes_of rfl rfl rfl rfl) fun _ _ _ _ h => h) (pa_cons (pv 1) pa_nil)) (by rfl))))), ?_⟩
  refine ⟨v, rfl, v, d, rfl, hd, hs, hc, fun n1 H1 e1 => ?_, q1⟩
  refine ⟨u, rfl, u, e, rfl, Dt.ex e1 he, hs2, hc2, fun n2 H2 e2 => ?_, fun n2 dx H' r => q2 n1 n2 dx H' (r.back e1)⟩
  obtain ⟨a, rfl, na⟩ := name_str n1
  obtain ⟨b, rfl, nb⟩ := name_str n2
  cases hd with
  | str =>
  cases he with
  | str =>
  have e12 := e1.trans e2
  have nd2 := nd.ex e12
  refine ⟨.str b, rfl, .ref x, rfl, x, A'.dx, _, rfl, nd2.ob, rfl, .str a, rfl, x, .str a, .str a, A', U, g, rfl, nd2, .str a, hs, hc, fun z => (by rw [n1] at z; cases z), fun a' ea _ l H3 zl e3 hl => ?_⟩
  cases ea
  refine rv_isL (sq_of hl) rfl (flat_strs _) H3 (Ex.refl H3) _ fun H4 e4 => ?_
  have ei : inV (.str b) ((cloS g a).map V.str) = decide (b ∈ cloS g a) := (Bool.eq_iff_iff).mpr (inV_mem.trans (decide_eq_true_iff (p := b ∈ cloS g a)).symm)
  have := q3 a b rfl rfl na nb H4 ((e12.trans e3).trans e4)
  rw [← ei] at this
  exact this
end
end Cr
/-! registries: requests and answers -/
namespace Cr
open PySem PySem.Spec PyProof.Rows L2 Evl
abbrev sRCr : Stmt := inClass (topS 21) 11
abbrev sRRq : Stmt := inClass (topS 21) 12
theorem scRCr : FnScope ["self", "source", "target"] ["self", "source", "target"] (defScope sRCr) := ⟨rfl, rfl, rfl, by decide +kernel, rfl, by decide +kernel, by decide +kernel⟩
theorem scRRq : FnScope ["self", "source", "target"] ["self", "source", "target"] (defScope sRRq) := ⟨rfl, rfl, rfl, by decide +kernel, rfl, by decide +kernel, by decide +kernel⟩
def srcV : Option Str → V
  | none => .non
  | some s => .str s
/-- the source, if there is one, is running -/
def okSrc (R : Rg) (so : Option Str) : Prop := ∀ s, so = some s → stM R s = "running"
theorem rv_notNr {H : Hp} (v : V) : RV (fun x y H Q => y = .non ∧ Q (.bl (!decide (x = .non))) H) v .non H (.bl (!decide (v = .non))) := fun H1 _ Q q => And.intro rfl (q H1 (Ex.refl H1))
theorem et_src {σ : L2.St} {H : Hp} {i : Nat} {so : Option Str} (hi : σ[i]? = some (some (srcV so))) : EvT (tTest (tOp (fun x y H Q => y = .non ∧ Q (.bl (!decide (x = .non))) H) (tVar i) (tC .non))) σ H so.isSome := et_is (et_test (ev_op (ev_var hi) ev_c (rv_notNr (srcV so)))) (by cases so <;> rfl)
def spRCr (C CG CW : Addr) : Sp := fun vs H Q E => ∃ x so t HB A U R, vs = [.ref x, srcV so, .str t] ∧ RgAt C CG HB H x A U R ∧ t ∈ U ∧ (∀ s, so = some s → s ∈ U) ∧ (okSrc R so → ∀ H', Ex H H' → Q .non H') ∧
  (∀ s, so = some s → stM R s ≠ "running" → ∀ dx H', Rsd2 H H' dx "module" "found" (.str s) (.str (stM R s)) → E (.ref CW) (some dx) H')
/-- what a request changes -/
structure ReqTo (R : Rg) (so : Option Str) (t : Str) (R' : Rg) : Prop where
  ex : R'.ex = R.ex
  ch : R'.ch = R.ch
  hd : R'.hd = R.hd
  ga : R'.ga = R.ga
  st : ∀ m, stM R' m = if stM R t = "new" ∧ m = t then ("running" : Str) else stM R m
  g : ∀ q : Pr, q.2 ∈ tgS R'.g q.1 ↔ ((so = some q.1 ∧ q.2 = t) ∨ q.2 ∈ tgS R.g q.1)
  ge : ∀ q : Pr, q.2 ∈ tgS R'.ge q.1 ↔ ((so = some q.1 ∧ q.2 = t) ∨ q.2 ∈ tgS R.ge q.1)
def spRRq (C CG CW : Addr) : Sp := fun vs H Q E => ∃ x so t HB A U R, vs = [.ref x, srcV so, .str t] ∧ RgAt C CG HB H x A U R ∧ t ∈ U ∧ (∀ s, so = some s → s ∈ U) ∧
  (okSrc R so → ∀ R' H', RgTo C CG HB H H' x A U R R' → ReqTo R so t R' → Q (.bl (decide (stM R t = "new"))) H') ∧
  (∀ s, so = some s → stM R s ≠ "running" → ∀ dx H', Rsd2 H H' dx "module" "found" (.str s) (.str (stM R s)) → E (.ref CW) (some dx) H')
section
variable {C CG x : Addr} {HB H H' : Hp} {A : RgA} {U : List Str} {R : Rg}
theorem kvSt_put (st : List (Str × Str)) (m v : Str) : putK (kvSt st) (.inr m) (.str v) = kvSt (putA st m v) := putK_map V.str st m v
theorem stM_put (R : Rg) (m v : Str) (y : Str) : stM { R with st := putA R.st m v } y = if y = m then v else stM R y := by
  unfold stM
  show (getA (putA R.st m v) y).getD "" = _
  rw [getA_put]
  by_cases e : y = m
  · rw [if_pos e, if_pos e]; rfl
  · rw [if_neg e, if_neg e]
/-- a module's state is put -/
theorem RgAt.putS (h : RgAt C CG HB H x A U R) {m v : Str} (hm : m ∈ U) (hv : v ∈ states5) : DPut H A.aS (.str m) (.str v) (upd H A.aS (.dK (kvSt (putA R.st m v)))) ∧ RgTo C CG HB H (upd H A.aS (.dK (kvSt (putA R.st m v)))) x A U R { R with st := putA R.st m v } := by
  have w := h.wf
  refine ⟨?_, h.setS _ (by rw [putA_keys, if_pos (by rw [w.st]; exact hm)]; exact w.st) fun r hr => ?_⟩
  · have z := DPut.k (k := Sum.inr m) (v := .str v) h.hS (by
      unfold kvSt
      rw [List.length_map]
      have := congrArg List.length w.st
      rw [List.length_map] at this
      have := w.u40
      rw [sizeLine_eq]
      omega)
    rw [kvSt_put] at z
    exact z
  · rcases mem_putA hr with rfl | ⟨hr, _⟩
    · exact hv
    · exact w.sv r hr
end
section
variable {P : Program} {w : World} {K : PySem.W.Frag} {mg : Str → Option Value} {base : Heap}
theorem ev_known {C CG x : Addr} {HB H : Hp} {A : RgA} {U : List Str} {R : Rg} {σ : L2.St} {i j : Nat} {m : Str} (hi : σ[i]? = some (some (.ref x))) (hj : σ[j]? = some (some (.str m))) (rg : RgAt C CG HB H x A U R) (hm : m ∈ U) : Ev (tMeth C "known" (spRKn C CG) [] E0 (tVar i) (tCons (tVar j) tNil)) σ H (.str m) :=
  ev_mthR (ev_var hi) rg.ob rfl (ea_cons (ev_var hj) ea_nil) fun H1 e1 Q q E => ⟨x, m, HB, A, U, R, rfl, rg.ex e1, hm, q⟩
theorem ok_rcr {f C CG CW : Addr} {fd : FuncData} {k : Nat} (F : Fun K "check_request" "Registry.check_request" sRCr f fd) (T : RgC K mg C) (h1 : HasM P w K mg base CX0 k C "known" ["self", "value"] (spRKn C CG)) (h2 : HasM P w K mg base (L2.CX P w) k C "check_state" ["self", "module", "state"] (spRCs C CG CW)) : FnOk P w K mg base (L2.CX P w) (k + 1) f fd ["self", "source", "target"] (spRCr C CG CW) := by
  obtain ⟨f1, d1, G1, b1, m1⟩ := h1.ex
  obtain ⟨f2, d2, G2, b2, m2⟩ := h2.ex
  refine F.okX scRCr (fun vs H Q E h => by obtain ⟨_, _, _, _, _, _, _, rfl, _⟩ := h; rfl) (fun cdv A outer s H vs Q E hr h => ?_)
  obtain ⟨x, so, t, HB, A', U, R, rfl, rg, ht, hso, q, qe⟩ := h
  refine ⟨_, pss_cons (ps_if (pt_cmpR op_notN (pv 1) pe_non (nomark _)) (pss_one (ps_expr (pe_meth (E := E0) (pv 0) T.cl m1 G1 hr b1 .nil pass0 (pa_cons (pv 1) pa_nil)))) pss_nil)
    (pss_cons (ps_expr (pe_meth (E := E0) (pv 0) T.cl m1 G1 hr b1 .nil pass0 (pa_cons (pv 2) pa_nil)))
    (pss_one (ps_if (pt_cmpR op_notN (pv 1) pe_non (nomark _)) (pss_one (ps_expr (pe_meth (E := E) (pv 0) T.cl m2 G2 hr b2 .nil (passes_call (takes_of rfl rfl rfl rfl) fun _ _ _ _ h => h) (pa_cons (pe_meth (E := E0) (pv 0) T.cl m1 G1 hr b1 .nil pass0 (pa_cons (pv 1) pa_nil)) (pa_cons pe_str pa_nil))))) pss_nil))), ?_⟩
  cases so with
  | none =>
    refine q_when (b := false) (et_src (so := none) rfl) (fun z => nomatch z) (fun _ H1 e1 => ?_)
    refine q_drop (ev_known rfl rfl (rg.ex e1) ht) fun H2 e2 => ?_
    exact s_when (b := false) (et_src (so := none) rfl) (fun z => nomatch z) (fun _ H3 e3 => q (fun _ z => nomatch z) H3 (e1.trans (e2.trans e3)))
  | some s =>
    have hs := hso s rfl
    refine q_when (b := true) (et_src (so := some s) rfl) (fun _ H1 e1 => ?_) (fun z => nomatch z)
    refine s_drop (ev_known rfl rfl (rg.ex e1) hs) fun H2 e2 => ?_
    have e12 := e1.trans e2
    refine q_drop (ev_known rfl rfl (rg.ex e12) ht) fun H3 e3 => ?_
    have e13 := e12.trans e3
    refine s_when (b := true) (et_src (so := some s) rfl) (fun _ H4 e4 => ?_) (fun z => nomatch z)
    have e14 := e13.trans e4
    refine ⟨.ref x, rfl, x, A'.dx, _, rfl, (rg.ex e14).ob, rfl, ?_⟩
    refine ev_known (i := 0) (j := 1) rfl rfl (rg.ex e14) hs H4 (Ex.refl H4) _ fun H5 e5 => ?_
    have e15 := e14.trans e5
    refine ⟨x, s, "running", HB, A', U, R, rfl, rg.ex e15, hs, fun hr H6 e6 => ?_, fun hr dx H6 r => qe s rfl hr dx H6 (r.back e15)⟩
    exact q (fun s' es => by cases es; exact hr) H6 (e15.trans e6)
theorem ok_rrq {f C CG CW CNm : Addr} {fd : FuncData} {k n : Nat} (F : Fun K "request" "Registry.request" sRRq f fd) (T : RgC K mg C) (TN : NdC K mg CG) (n1 : 1 ≤ n) (h1 : HasM P w K mg base (L2.CX P w) k C "check_request" ["self", "source", "target"] (spRCr C CG CW)) (h2 : HasM P w K mg base (L2.CX P w) k CG "record" ["self", "source", "target"] (spRecord CG CNm n)) : FnOk P w K mg base (L2.CX P w) (k + 1) f fd ["self", "source", "target"] (spRRq C CG CW) := by
  obtain ⟨f1, d1, G1, b1, m1⟩ := h1.ex
  obtain ⟨f2, d2, G2, b2, m2⟩ := h2.ex
  refine F.okX scRRq (fun vs H Q E h => by obtain ⟨_, _, _, _, _, _, _, rfl, _⟩ := h; rfl) (fun cdv A outer s H vs Q E hr h => ?_)
  obtain ⟨x, so, t, HB, A', U, R, rfl, rg, ht, hso, q, qe⟩ := h
  have hu := hu_of hr
  refine ⟨_, pss_cons (ps_expr (pe_meth (E := E) (pv 0) T.cl m1 G1 hr b1 .nil (passes_call (takes_of rfl rfl rfl rfl) fun _ _ _ _ h => h) (pa_cons (pv 1) (pa_cons (pv 2) pa_nil))))
    (pss_cut (ps_if (pt_cmpR op_notN (pv 1) pe_non (nomark _))
      (pss_cons (ps_expr (pe_meth (E := fun _ _ _ => False) (pe_fld (pv 0) rfl) TN.cl m2 G2 hr b2 .nil (passes_call (takes_of rfl rfl rfl rfl) fun _ _ _ _ h => h.elim) (pa_cons (pv 1) (pa_cons (pv 2) pa_nil))))
      (pss_one (ps_expr (pe_meth (E := fun _ _ _ => False) (pe_fld (pv 0) rfl) TN.cl m2 G2 hr b2 .nil (passes_call (takes_of rfl rfl rfl rfl) fun _ _ _ _ h => h.elim) (pa_cons (pv 1) (pa_cons (pv 2) pa_nil)))))) pss_nil)
    (pss_cons (ps_if (pt_cmpR op_ne (pe_dget hu (pe_fld (pv 0) rfl) (pv 2) (fun _ _ => rfl)) pe_str (nomark _)) (pss_one (ps_ret pe_bl)) pss_nil)
    (pss_cons (ps_dput hu (pe_fld (pv 0) rfl) (pv 2) pe_str rfl)
    (pss_one (ps_ret pe_bl))))), ?_⟩
  refine q_dropAny ⟨.ref x, rfl, x, A'.dx, _, rfl, rg.ob, rfl, srcV so, rfl, .str t, rfl, x, so, t, HB, A', U, R, rfl, rg, ht, hso, fun okS H1 e1 => ?_, qe⟩
  have rg1 := rg.ex e1
  refine q_cut (M := fun σ H2 => ∃ R1, σ = [some (.ref x), some (srcV so), some (.str t)] ∧ RgTo C CG HB H H2 x A' U R R1 ∧ R1.st = R.st ∧ R1.ex = R.ex ∧ R1.ch = R.ch ∧ R1.hd = R.hd ∧ R1.ga = R.ga ∧ (∀ q : Pr, q.2 ∈ tgS R1.g q.1 ↔ ((so = some q.1 ∧ q.2 = t) ∨ q.2 ∈ tgS R.g q.1)) ∧ ∀ q : Pr, q.2 ∈ tgS R1.ge q.1 ↔ ((so = some q.1 ∧ q.2 = t) ∨ q.2 ∈ tgS R.ge q.1)) ?_ ?_
  · cases so with
    | none =>
      refine s_when (b := false) (et_src (so := none) rfl) (fun z => nomatch z) (fun _ H2 e2 => ?_)
      exact ⟨R, rfl, RgTo.from (e1.trans e2) (RgTo.refl (rg1.ex e2)), rfl, rfl, rfl, rfl, rfl, fun q => ⟨.inr, fun h => h.elim (fun h => nomatch h.1) id⟩, fun q => ⟨.inr, fun h => h.elim (fun h => nomatch h.1) id⟩⟩
    | some s =>
      have hs := hso s rfl
      refine s_when (b := true) (et_src (so := some s) rfl) (fun _ H2 e2 => ?_) (fun z => nomatch z)
      have rg2 := rg1.ex e2
      refine q_dropAny ⟨.ref x, rfl, x, C, A'.dx, _, .ref A'.gN.x, rfl, rg2.ob, T.cl, T.nN, flR_N A', A'.gN.x, A'.gN.a.dx, _, rfl, rg2.nN.ob, rfl, .str s, rfl, .str t, rfl, ?_⟩
      dsimp only [tNil, List.nil_append, List.cons_append]
      show spRecord CG CNm n [.ref A'.gN.x, .str s, .str t] H2 _ _
      refine rec_of (CN := CNm) (n := n) rg2.nN n1 hs ht fun bb g' H3 b3 nd3 iff3 new3 => ?_
      have to3 := rg2.setN (l := [A'.gN.a.dd]) b3 (fun a ha => by rw [List.mem_singleton.mp ha]; exact List.mem_cons_self) nd3 fun r hr => (new3 r hr).imp (fun z => List.mem_cons_of_mem _ (List.mem_map_of_mem z)) id
      have rg3 := to3.1
      refine ⟨.ref x, rfl, x, C, A'.dx, _, .ref A'.gE.x, rfl, rg3.ob, T.cl, T.nE, flR_E A', A'.gE.x, A'.gE.a.dx, _, rfl, rg3.nE.ob, rfl, .str s, rfl, .str t, rfl, ?_⟩
      dsimp only [tNil, List.nil_append, List.cons_append]
      show spRecord CG CNm n [.ref A'.gE.x, .str s, .str t] H3 _ _
      refine rec_of (CN := CNm) (n := n) rg3.nE n1 hs ht fun bb4 g4 H4 b4 nd4 iff4 new4 => ?_
      have to4 := rg3.setE (l := [A'.gE.a.dd]) b4 (fun a ha => by rw [List.mem_singleton.mp ha]; exact List.mem_cons_self) nd4 fun r hr => (new4 r hr).imp (fun z => List.mem_cons_of_mem _ (List.mem_map_of_mem z)) id
      refine ⟨_, rfl, RgTo.from (e1.trans e2) (to3.trans to4), rfl, rfl, rfl, rfl, rfl, fun q => ?_, fun q => ?_⟩
      · rw [iff3 q]
        exact or_congr ⟨fun e => by rw [e]; exact ⟨rfl, rfl⟩, fun e => Prod.ext (Option.some.inj e.1).symm e.2⟩ Iff.rfl
      · rw [iff4 q]
        exact or_congr ⟨fun e => by rw [e]; exact ⟨rfl, rfl⟩, fun e => Prod.ext (Option.some.inj e.1).symm e.2⟩ Iff.rfl
  rintro σ H2 ⟨R1, rfl, to2, s1, s2, s3, s4, s5, i1, i2⟩
  have rg2 := to2.1
  have eS : ∀ m, stM R1 m = stM R m := fun m => by unfold stM; rw [s1]
  have st0 : Ev (tDGet (tFld K (tVar 0) "states") (tVar 2)) [some (.ref x), some (srcV so), some (.str t)] H2 (.str (stM R t)) := by
    rw [← eS]
    exact ev_dgRd (ev_fld (ev_var rfl) rg2.ob T.cl T.nS (flR_S A')) (ev_var rfl) (.inl rg2.hS) (st_val rg2.wf ht)
  by_cases hn : stM R t = "new"
  · refine q_when (b := false) (et_is (et_test (ev_op st0 ev_c (rv_ne rfl))) (by rw [hn, decide_eq_true rfl]; rfl)) (fun z => nomatch z) (fun _ H3 e3 => ?_)
    have rg3 := rg2.ex e3
    obtain ⟨dp, to4⟩ := rg3.putS ht (v := "running") (by decide +kernel)
    refine ⟨.ref x, rfl, x, C, A'.dx, _, .ref A'.aS, rfl, rg3.ob, T.cl, T.nS, flR_S A', .str t, rfl, A'.aS, _, rfl, dp, ?_⟩
    dsimp only
    refine s_ret ev_c fun H5 e5 => ?_
    have z := q okS _ H5 (((to2.ex e3).trans to4).ex e5) ⟨s2, s3, s4, s5, fun m => ?_, i1, i2⟩
    · rw [decide_eq_true hn] at z
      exact z
    · rw [stM_put, eS]
      by_cases e : m = t
      · rw [if_pos e, if_pos ⟨hn, e⟩]
      · rw [if_neg e, if_neg fun z => e z.2]
  · refine q_when (b := true) (et_is (et_test (ev_op st0 ev_c (rv_ne rfl))) (by rw [decide_eq_false (fun e => hn (V.str.inj e))]; rfl)) (fun _ H3 e3 => ?_) (fun z => nomatch z)
    refine s_ret ev_c fun H4 e4 => ?_
    have z := q okS R1 H4 (to2.ex (e3.trans e4)) ⟨s2, s3, s4, s5, fun m => ?_, i1, i2⟩
    · rw [decide_eq_false hn] at z
      exact z
    · rw [eS, if_neg fun z => hn z.1]
end
end Cr
/-! registries: answers and accesses -/
/-! dicts made of a list of names, value by value -/
namespace Cr
open PySem PySem.Spec PyProof.Rows L2 Evl
def kvN (rows : List (Str × V)) : List (Key × V) := rows.map fun r => (.inr r.1, r.2)
theorem kvN_new {rows : List (Str × V)} {n : Str} {v : V} (h : n ∉ rows.map (·.1)) : putK (kvN rows) (.inr n) v = kvN (rows ++ [(n, v)]) := by
  unfold kvN
  rw [putK_map (fun v : V => v) rows n v, putA_new h]
theorem dc_namesG {K : PySem.W.Frag} {tl tk tv : TE} {σ : L2.St} {H : Hp} {j : Nat} {ns : List Str} {Q : VK} (Pw : Hp → List (Str × V) → Prop) (mono : ∀ {H1 H2 : Hp} {rows : List (Str × V)}, Ex H1 H2 → Pw H1 rows → Pw H2 rows) (p0 : Pw H []) (hl : ∀ R : VK, (∀ S H1, Ex H H1 → H1 S = some (.lst (ns.map V.str)) → R (.ref S) H1) → tl σ H R) (nd : ns.Nodup) (hz : ns.length ≤ 40000)
    (hw : ∀ x, wipe ((wipe σ [j]).set j (some x)) [j] = wipe σ [j]) (hk : ∀ n ∈ ns, ∀ H1, Ex H H1 → Ev tk ((wipe σ [j]).set j (some (.str n))) H1 (.str n))
    (hv : ∀ n ∈ ns, ∀ D H1 rows, H D = none → Ex H (wo D H1) → H1 D ≠ none → Pw (wo D H1) rows → ∀ Q : VK, (∀ v H2, Ex H1 H2 → Pw (wo D H2) (rows ++ [(n, v)]) → Q v H2) → tv ((wipe σ [j]).set j (some (.str n))) H1 Q)
    (q : ∀ D H' rows, H D = none → rows.map (·.1) = ns → Ex H H' → H' D = some (.dK (kvN rows)) → Pw (wo D H') rows → Q (.ref D) H') : tDc (iList K tl) (gName j) tYes tk tv [j] σ H Q := by
  refine hl _ fun S H1 e1 hS => ⟨S, rfl, ⟨_, sq_of hS⟩, fun D zD => ?_⟩
  have zD0 : H D = none := fresh_back e1 zD
  have SD : S ≠ D := ne_of_none hS zD
  have exw : ∀ {H2 : Hp}, Ex H1 (wo D H2) → Ex H (wo D H2) := fun e => e1.trans e
  refine dc_it (walk_list (K := K) (a := S) (xs := ns.map V.str)) (fun i H' => Ex H1 (wo D H') ∧ ∃ rows, H' D = some (.dK (kvN rows)) ∧ rows.map (·.1) = ns.take i ∧ Pw (wo D H') rows)
    ⟨fun b o hb => by rw [wo_ne (ne_of_none hb zD), upd_ne (ne_of_none hb zD)]; exact hb, [], upd_same, by rw [List.take_zero]; rfl, mono (fun b o hb => by rw [wo_ne (ne_of_none hb zD0), upd_ne (ne_of_none hb zD0)]; exact e1 _ _ hb) p0⟩ (fun i H' _ h => sq_of ((h.1.trans (wo_ex D H')) _ _ hS)) ?_ ?_
  · rintro i v H5 H5' hi ⟨e5, rows, hD, hrows, hp⟩ ⟨rfl, hy⟩
    rw [List.length_map] at hi
    rw [List.getElem?_map, List.getElem?_eq_getElem hi] at hy
    cases hy
    have mem := List.getElem_mem hi
    have htk : ns.take (i + 1) = ns.take i ++ [ns[i]] := List.take_succ_eq_append_getElem hi
    have nin : ns[i] ∉ rows.map (·.1) := by
      rw [hrows]
      intro z
      have e : ns = ns.take i ++ ns[i] :: ns.drop (i + 1) := by rw [← List.drop_eq_getElem_cons hi]; exact (List.take_append_drop i ns).symm
      have nd2 := nd
      rw [e] at nd2
      exact (List.nodup_append.mp nd2).2.2 _ z _ List.mem_cons_self rfl
    rw [htk]
    generalize ns[i] = nm at mem nin
    refine ⟨hw _, ?_⟩
    unfold tYes
    dsimp only
    rw [if_pos rfl]
    refine hk nm mem H5' (e1.trans (e5.trans (wo_ex D H5'))) H5' (Ex.refl H5') _ fun H6 e6 => ?_
    have eD6 := e6 _ _ hD
    have ex6 : Ex H1 (wo D H6) := e5.trans (Ex.wo e6)
    refine hv nm mem D H6 rows zD0 (exw ex6) (by rw [eD6]; exact fun z => nomatch z) (mono (Ex.wo e6) hp) _ fun v H7 e7 hp7 => ?_
    have lr : rows.length = i := by
      have z := congrArg List.length hrows
      rw [List.length_map, List.length_take] at z
      omega
    have same : ∀ {o : HO}, wo D (upd H7 D o) = wo D H7 := fun {o} => by
      funext b
      by_cases e : b = D
      · rw [e]; unfold wo; rw [if_pos rfl, if_pos rfl]
      · rw [wo_ne e, wo_ne e, upd_ne e]
    refine ⟨kvN rows, .inr nm, rfl, e7 _ _ eD6, by unfold kvN; rw [List.length_map, lr, sizeLine_eq]; omega, ?_, rows ++ [(nm, v)], ?_, by rw [List.map_append, hrows]; rfl, ?_⟩
    · rw [same]
      exact ex6.trans (Ex.wo e7)
    · rw [kvN_new nin, upd_same]
    · rw [same]
      exact hp7
  · rintro H5 ⟨e5, rows, hD, hrows, hp⟩
    rw [List.length_map, List.take_length] at hrows
    exact q D H5 rows zD0 hrows (e1.trans (e5.trans (wo_ex D H5))) hD hp
theorem dc_names {K : PySem.W.Frag} {tl tk tv : TE} {σ : L2.St} {H : Hp} {j : Nat} {ns : List Str} {Q : VK} (Pw : Hp → List (Str × V) → Prop) (mono : ∀ {H1 H2 : Hp} {rows : List (Str × V)}, Ex H1 H2 → Pw H1 rows → Pw H2 rows) (p0 : Pw H []) (hl : EvL tl σ H (ns.map V.str)) (nd : ns.Nodup) (hz : ns.length ≤ 40000)
    (hw : ∀ x, wipe ((wipe σ [j]).set j (some x)) [j] = wipe σ [j]) (hk : ∀ n ∈ ns, ∀ H1, Ex H H1 → Ev tk ((wipe σ [j]).set j (some (.str n))) H1 (.str n))
    (hv : ∀ n ∈ ns, ∀ D H1 rows, H D = none → Ex H (wo D H1) → H1 D ≠ none → Pw (wo D H1) rows → ∀ Q : VK, (∀ v H2, Ex H1 H2 → Pw (wo D H2) (rows ++ [(n, v)]) → Q v H2) → tv ((wipe σ [j]).set j (some (.str n))) H1 Q)
    (q : ∀ D H' rows, H D = none → rows.map (·.1) = ns → Ex H H' → H' D = some (.dK (kvN rows)) → Pw (wo D H') rows → Q (.ref D) H') : tDc (iList K tl) (gName j) tYes tk tv [j] σ H Q :=
  dc_namesG Pw mono p0 (fun R r => hl H (Ex.refl H) _ fun S H1 _ e1 hS => r S H1 e1 hS) nd hz hw hk hv q
end Cr
/-! registries: exports, what is complete, finish -/
namespace Cr
open PySem PySem.Spec PyProof.Rows L2 Evl
/-- a comprehension over a list of names -/
theorem el_namesW {K : PySem.W.Frag} {tl te : TE} {tt : TT} {σ : L2.St} {H : Hp} {ns : List Str} {j : Nat} (f : Str → Bool) (v : Str → V) (hl : EvL tl σ H (ns.map V.str)) (hz : ns.length ≤ 40000)
    (hw : ∀ x, wipe ((wipe σ [j]).set j (some x)) [j] = wipe σ [j]) (ht : ∀ n H1, Ex H H1 → n ∈ ns → EvT tt ((wipe σ [j]).set j (some (.str n))) H1 (f n)) (he : ∀ n H1, Ex H H1 → n ∈ ns → f n = true → Ev te ((wipe σ [j]).set j (some (.str n))) H1 (v n)) :
    EvL (tLc (iList K tl) (gName j) tt te [j]) σ H ((ns.filter f).map v) := by
  have lc := el_lcW (wi := iList K tl) (g := gName j) (tt := tt) (te := te) (vs := [j]) (σ := σ) (H := H) (n := ns.length) (Y := YAt (ns.map V.str)) (fun i => f (ns.getD i "")) (fun i => v (ns.getD i "")) hz
    (fun H1 e1 R r => hl H1 e1 _ fun S H2 zS e2 hS => ⟨S, rfl, ⟨_, sq_of hS⟩, r H2 _ (fun H => SqL K H S (ns.map V.str)) (by have w := walk_list (K := K) (a := S) (xs := ns.map V.str); rw [List.length_map] at w; exact w) (fun _ _ e z => ex_l e z) e2 (sq_of hS)⟩)
    (fun i y H1 H2 e1 hi hy => by
      obtain ⟨rfl, hy⟩ := hy
      rw [List.getElem?_map, List.getElem?_eq_getElem hi] at hy
      cases hy
      have gd : ns.getD i "" = ns[i] := by rw [List.getD_eq_getElem?_getD, List.getElem?_eq_getElem hi]; rfl
      rw [gd]
      have mem : ns[i] ∈ ns := List.getElem_mem hi
      exact ⟨Ex.refl _, _, hw _, fun R r => r, ht _ H2 e1 mem, fun h => he _ H2 e1 mem h⟩)
  rw [given_flt ns "" f v] at lc
  exact lc
abbrev sRXp : Stmt := inClass (topS 21) 15
theorem scRXp : FnScope ["self", "module", "name", "value", "owner"] ["self", "module", "name", "value"] (defScope sRXp) := ⟨rfl, rfl, rfl, by decide +kernel, rfl, by decide +kernel, by decide +kernel⟩
abbrev sREx : Stmt := inClass (topS 21) 16
theorem scREx : FnScope ["self", "module", "exported", "name"] ["self", "module"] (defScope sREx) := ⟨rfl, rfl, rfl, by decide +kernel, rfl, by decide +kernel, by decide +kernel⟩
abbrev sRIc : Stmt := inClass (topS 21) 18
theorem scRIc : FnScope ["self", "module", "other"] ["self", "module"] (defScope sRIc) := ⟨rfl, rfl, rfl, by decide +kernel, rfl, by decide +kernel, by decide +kernel⟩
abbrev sRFi : Stmt := inClass (topS 21) 19
abbrev nRFi : List Str := ["self", "module", "complete", "other"]
theorem scRFi : FnScope nRFi ["self", "module"] (defScope sRFi) := ⟨rfl, rfl, rfl, by decide +kernel, rfl, by decide +kernel, by decide +kernel⟩
def xpR (R : Rg) (m l : Str) (i : Int) (a : Addr) (e : Ints) : Rg := { R with ex := putA R.ex m (a, putA e l i) }
def spRXp (C CG CW : Addr) : Sp := fun vs H Q E => ∃ x m l i HB A U R, vs = [.ref x, .str m, .str l, .int i] ∧ RgAt C CG HB H x A U R ∧ m ∈ U ∧ isNameS l = true ∧ (∀ r ∈ R.ex, r.2.2.length ≤ 1000) ∧
  (stM R m = "running" → ∀ a e H', getA R.ex m = some (a, e) → RgTo C CG HB H H' x A U R (xpR R m l i a e) → Q .non H') ∧
  (stM R m ≠ "running" → ∀ dx H', Rsd2 H H' dx "module" "found" (.str m) (.str (stM R m)) → E (.ref CW) (some dx) H')
/-- a module's exports in order -/
def expI (e : Ints) : Ints := (srtS (keysA e)).map fun l => (l, (getA e l).getD 0)
def exR (R : Rg) (m : Str) : Ints := ((getA R.ex m).map (·.2)).getD []
def spREx (C CG : Addr) : Sp := fun vs H Q _ => ∃ x m HB A U R, vs = [.ref x, .str m] ∧ RgAt C CG HB H x A U R ∧ m ∈ U ∧ (∀ r ∈ R.ex, r.2.2.length < 64) ∧ ∀ d H', H d = none → Ex H H' → H' d = some (.dK (kvInt (expI (exR R m)))) → Q (.ref d) H'
def okC (R : Rg) (y : Str) : Bool := decide (stM R y = "done" ∨ stM R y = "ready")
def complB (R : Rg) (m : Str) : Bool := (cloS R.g m).all (okC R)
def spRIc (C CG : Addr) : Sp := fun vs H Q _ => ∃ x m HB A U R, vs = [.ref x, .str m] ∧ RgAt C CG HB H x A U R ∧ m ∈ U ∧ ∀ H', Ex H H' → Q (.bl (complB R m)) H'
def doneR (R : Rg) (m : Str) : Rg := { R with st := putA R.st m "done" }
/-- what becomes ready -/
def finL (U : List Str) (R : Rg) (m : Str) : List Str := (inR U (doneR R m) "done").filter (complB (doneR R m))
structure FinTo (R : Rg) (m : Str) (cs : List Str) (R' : Rg) : Prop where
  ex : R'.ex = R.ex
  ch : R'.ch = R.ch
  hd : R'.hd = R.hd
  g : R'.g = R.g
  ge : R'.ge = R.ge
  st : ∀ y, stM R' y = if y ∈ cs then ("ready" : Str) else if y = m then "done" else stM R y
  ga : ∀ q : Pr, q.2 ∈ tgS R'.ga q.1 ↔ (q.2 ∈ tgS R.ga q.1 ∧ q.1 ∉ cs)
def spRFi (C CG CW : Addr) : Sp := fun vs H Q E => ∃ x m HB A U R, vs = [.ref x, .str m] ∧ RgAt C CG HB H x A U R ∧ m ∈ U ∧
  (stM R m = "running" → ∀ R' l H', H l = none → l ∉ ownR A R' → RgTo C CG HB H H' x A U R R' → H' l = some (.lst ((finL U R m).map V.str)) → FinTo R m (finL U R m) R' → Q (.ref l) H') ∧
  (stM R m ≠ "running" → ∀ dx H', Rsd2 H H' dx "module" "found" (.str m) (.str (stM R m)) → E (.ref CW) (some dx) H')
theorem clo_U {U : List Str} {g : List Row} (h : GOk U g) {m y : Str} (hm : m ∈ U) (hy : y ∈ cloS g m) : y ∈ U := by
  have z := (mem_clo h).mp hy
  clear hy
  induction z with
  | refl => exact hm
  | step _ s _ => exact (h.tgU s).2
section
variable {P : Program} {w : World} {K : PySem.W.Frag} {mg : Str → Option Value} {base : Heap}
theorem ok_ric {f C CG CNm : Addr} {fd : FuncData} {k n : Nat} (F : Fun K "is_complete" "Registry.is_complete" sRIc f fd) (B : Blt mg) (T : RgC K mg C) (TN : NdC K mg CG) (n1 : 1 ≤ n) (h1 : HasM P w K mg base (L2.CX P w) k CG "closure" ["self", "name"] (spClo CG CNm n)) : FnOk P w K mg base CX0 (k + 1) f fd ["self", "module"] (spRIc C CG) := by
  obtain ⟨f1, d1, G1, b1, mm1⟩ := h1.ex
  refine F.ok scRIc (fun vs H Q E h => by obtain ⟨_, _, _, _, _, _, rfl, _⟩ := h; rfl) (fun cdv A outer s0 H vs Q E hr h => ?_)
  obtain ⟨x, m, HB, A', U, R, rfl, rg, hm, q⟩ := h
  have hu := hu_of hr
  refine ⟨_, pss_one (ps_ret (pe_callB (cr_all rfl) (by rfl) B.all bAll (pa_cons (pe_lc (own := [("other", 2)]) (g := gName 2) (tt := tYes) (te := tOp (rIn K false) (tDGet (tFld K (tVar 0) "states") (tVar 2)) (tTup (tCons (tC (.str "done")) (tCons (tC (.str "ready")) tNil)))) rfl scRIc.nd (pi_list (pe_meth (E := E0) (pe_fld (pv 0) rfl) TN.cl mm1 G1 hr b1 .nil passL (pa_cons (pv 1) pa_nil))) (blkOk_by (own := [("other", 2)]) (N := ["self", "module", "other"]) (sc := defScope sRIc) (by decide +kernel))
      (fun _ _ _ _ _ => pg_name (i := 2) scRIc.nd rfl (Or.inl rfl)) (fun _ _ _ _ _ => pts_nil) (fun _ _ _ _ _ => by exact pe_cmpR op_in_seq (pe_dget hu (pe_fld (pv 0) rfl) (pv 2) (fun _ _ => rfl)) (pe_tup (pa_cons pe_str (pa_cons pe_str pa_nil))) (by rfl))) pa_nil))), ?_⟩
  have nm := rg.wf.un m hm
  have cl : EvL (tMeth CG "closure" (spClo CG CNm n) [] E0 (tFld K (tVar 0) "graph") (tCons (tVar 1) tNil)) [some (.ref x), some (.str m), none] H ((cloS R.g m).map V.str) := fun H1 e1 Q' q' => by
    refine ev_fld (ev_var rfl) rg.ob T.cl T.nN (flR_N A') H1 e1 _ fun H2 e2 => ⟨A'.gN.x, A'.gN.a.dx, _, rfl, (rg.ex (e1.trans e2)).nN.ob, rfl, .str m, rfl, ?_⟩
    refine ⟨A'.gN.x, .str m, .str m, A'.gN.a, U, R.g, rfl, (rg.ex (e1.trans e2)).nN, .str m, sm_name nm, ⟨rfl, by show 0 < n; omega⟩, fun z => ?_, fun a ea _ l H3 zl e3 hl => ?_⟩
    · rw [show isName (.str m) = true from nm] at z; cases z
    · cases ea
      exact q' l H3 (fresh_back e2 zl) (e2.trans e3) hl
  have sub : ∀ y ∈ cloS R.g m, y ∈ U := fun y hy => clo_U rg.nN.ok hm hy
  have lc := el_namesW (K := K) (tt := tYes) (te := tOp (rIn K false) (tDGet (tFld K (tVar 0) "states") (tVar 2)) (tTup (tCons (tC (.str "done")) (tCons (tC (.str "ready")) tNil)))) (j := 2) (fun _ => true) (fun y => .bl (okC R y)) cl (by
    have nd : (cloS R.g m).Nodup := by unfold cloS; exact (srtS_perm _).nodup_iff.mpr (run_nd 64)
    have := sub_len nd sub
    have := rg.wf.u40
    omega) (fun _ => rfl) (fun y H1 _ _ => fun H4 _ Q q => q H4 (Ex.refl H4)) (fun y H1 e1 hy _ => by
      have rg1 := rg.ex e1
      have hyU := sub y hy
      refine ev_is (ev_inU (ev_dgRd (x := y) (v := .str (stM R y)) (ev_fld (ev_var rfl) rg1.ob T.cl T.nS (flR_S A')) (ev_var rfl) (.inl rg1.hS) (st_val rg.wf hyU)) (eu_tup (ea_cons ev_c (ea_cons ev_c ea_nil)) (by show 2 ≤ 100000; decide)) rfl (by rfl)) ?_
      congr 1
      unfold okC
      rw [Bool.eq_iff_iff, decide_eq_true_eq]
      refine (inV_mem (us := ["done", "ready"])).trans ?_
      simp)
  rw [List.filter_eq_self.mpr (fun _ _ => rfl)] at lc
  have em : (cloS R.g m).map (fun y => V.bl (okC R y)) = ((cloS R.g m).map (okC R)).map V.bl := by rw [List.map_map]; rfl
  rw [em] at lc
  refine s_ret (ev_all lc) fun H1 e1 => ?_
  rw [List.all_map]
  exact q H1 e1
end
end Cr
/-! registries: export, exports, finish -/
namespace Cr
open PySem PySem.Spec PyProof.Rows L2 Evl
section
variable {P : Program} {w : World} {K : PySem.W.Frag} {mg : Str → Option Value} {base : Heap}
theorem ok_rex {f C CG : Addr} {fd : FuncData} {k : Nat} (F : Fun K "exports" "Registry.exports" sREx f fd) (B : Blt mg) (T : RgC K mg C) (h1 : HasM P w K mg base CX0 k C "known" ["self", "value"] (spRKn C CG)) : FnOk P w K mg base CX0 (k + 1) f fd ["self", "module"] (spREx C CG) := by
  obtain ⟨f1, d1, G1, b1, mm1⟩ := h1.ex
  refine F.ok scREx (fun vs H Q E h => by obtain ⟨_, _, _, _, _, _, rfl, _⟩ := h; rfl) (fun cdv A outer s0 H vs Q E hr h => ?_)
  obtain ⟨x, m, HB, A', U, R, rfl, rg, hm, few, q⟩ := h
  have hu := hu_of hr
  refine ⟨_, pss_cons (ps_set (i := 2) scREx.nd rfl (.inr rfl) (pe_dget hu (pe_fld (pv 0) rfl) (pe_meth (E := E0) (pv 0) T.cl mm1 G1 hr b1 .nil pass0 (pa_cons (pv 1) pa_nil)) (fun _ _ => rfl)))
    (pss_one (ps_ret (pe_dc (own := [("name", 3)]) (g := gName 3) (tt := tYes) (tk := tVar 3) (tv := tDGet (tVar 2) (tVar 3)) rfl scREx.nd (pi_list (pe_callB (call_sortedD rfl) (by rfl) B.sorted bSorted (pa_cons (pv 2) pa_nil))) (blkOk_by (own := [("name", 3)]) (N := ["self", "module", "exported", "name"]) (sc := defScope sREx) (by decide +kernel))
      (fun _ _ _ _ _ => pg_name (i := 3) scREx.nd rfl (Or.inl rfl)) (fun _ _ _ _ _ => pts_nil) (fun _ _ _ _ _ => by exact pv 3) (fun _ _ _ _ _ => by exact pe_dget hu (pv 2) (pv 3) (fun _ _ => rfl))))), ?_⟩
  obtain ⟨a, e, hg, ha, mem, hv⟩ := xrow_get rg hm
  have le : e.length < 64 := few _ mem
  have ndE := rg.wf.xi _ mem
  have er : exR R m = e := by unfold exR; rw [hg]; rfl
  rw [er] at q
  refine q_asg (v := .ref a) (ev_dgRd (x := m) (ev_fld (ev_var rfl) rg.ob T.cl T.nX (flR_X A')) (ev_known rfl rfl rg hm) (.inl rg.hX) hv) fun H1 e1 => ?_
  have ha1 := e1 _ _ ha
  have val : ∀ n ∈ srtS (keysA e), valV (kvInt e) (.inr n) = some (.int ((getA e n).getD 0)) := fun n hn => by
    obtain ⟨v, hv⟩ := getA_some (l := e) (n := n) ((srtS_perm _).mem_iff.mp hn)
    unfold kvInt
    rw [valV_mapA V.int, hv]
    rfl
  have so : EvL (tCB (fun xs H Q => ∃ (a : Addr) (kvs : List (Key × V)) (ks : List Str), xs = [.ref a] ∧ Rd H a (.dK kvs) ∧ kvs.map (·.1) = ks.map Sum.inr ∧ ks.length < 64 ∧ ∀ ys p, ys.Perm ks → sortedS ys = true → H p = none → Q (.ref p) (upd H p (.lst (ys.map V.str)))) (tCons (tVar 2) tNil)) [some (.ref x), some (.str m), some (.ref a), none] H1 ((srtS (keysA e)).map V.str) := fun H2 e2 Q' q' =>
    ⟨.ref a, rfl, a, kvInt e, keysA e, rfl, .inl (e2 _ _ ha1), by unfold kvInt keysA; rw [List.map_map, List.map_map]; rfl, by unfold keysA; rw [List.length_map]; exact le, fun ys S hp2 hs2 zS => by
      rw [sorted_is hp2 hs2]
      exact q' S _ zS (Ex.new zS) upd_same⟩
  have nd := (srtS_perm (keysA e)).nodup_iff.mpr ndE
  refine dc_names (K := K) (j := 3) (ns := srtS (keysA e)) (fun _ rows => ∀ r ∈ rows, r.2 = .int ((getA e r.1).getD 0)) (fun _ h => h) (fun r h => nomatch h) so nd (by rw [(srtS_perm _).length_eq]; unfold keysA; rw [List.length_map]; omega) (fun _ => rfl) (fun n hn H2 e2 => ev_var rfl) (fun n hn D H2 rows zD e2 hD hp Q' q' => ?_) fun D H2 rows zD hrows e2 hD hp => ?_
  · refine ev_dgRd (x := n) (v := .int ((getA e n).getD 0)) (ev_var rfl) (ev_var rfl) (.inl ((e2.trans (wo_ex D H2)) _ _ ha1)) (val n hn) H2 (Ex.refl H2) _ fun H3 e3 => q' _ H3 e3 fun r hr => ?_
    rcases List.mem_append.mp hr with z | z
    · exact hp r z
    · rw [List.mem_singleton.mp z]
  · refine q D H2 (fresh_back e1 zD) (e1.trans e2) ?_
    have er2 : kvN rows = kvInt (expI e) := by
      unfold kvN kvInt expI
      rw [List.map_map, ← hrows, List.map_map]
      refine List.map_congr_left fun r hr => ?_
      show ((.inr r.1 : Key), r.2) = ((.inr r.1 : Key), V.int ((getA e r.1).getD 0))
      rw [hp r hr]
    rw [er2] at hD
    exact hD
theorem ok_rxp {f C CG CW CNm : Addr} {fd : FuncData} {k n : Nat} (F : Fun K "export" "Registry.export" sRXp f fd) (B : Blt mg) (T : RgC K mg C) (n1 : 1 ≤ n) (h1 : HasM P w K mg base CX0 k C "known" ["self", "value"] (spRKn C CG)) (h2 : HasM P w K mg base (L2.CX P w) k C "check_state" ["self", "module", "state"] (spRCs C CG CW)) (h3 : HasE P w K mg base k "check_name" ["value"] (spCheckN CNm n)) (h4 : HasO P w K mg base k "is_integer" ["value"] (spD isInteger)) (h5 : HasO P w K mg base k "bare_word" ["word"] spBareW) : FnOk P w K mg base (L2.CX P w) (k + 1) f fd ["self", "module", "name", "value"] (spRXp C CG CW) := by
  obtain ⟨f1, d1, G1, b1, mm1⟩ := h1.ex
  obtain ⟨f2, d2, G2, b2, mm2⟩ := h2.ex
  obtain ⟨f3, d3, G3, b3, k3, g3⟩ := h3.ex
  obtain ⟨f4, d4, G4, b4, k4, g4⟩ := h4.ex
  obtain ⟨f5, d5, G5, b5, k5, g5⟩ := h5.ex
  refine F.okX scRXp (fun vs H Q E h => by obtain ⟨_, _, _, _, _, _, _, _, rfl, _⟩ := h; rfl) (fun cdv A outer s0 H vs Q E hr h => ?_)
  obtain ⟨x, m, l, i, HB, A', U, R, rfl, rg, hm, hl, few, q, qe⟩ := h
  have hu := hu_of hr
  refine ⟨_, pss_cons (ps_set (i := 4) scRXp.nd rfl (.inl rfl) (pe_meth (E := E0) (pv 0) T.cl mm1 G1 hr b1 .nil pass0 (pa_cons (pv 1) pa_nil)))
    (pss_cons (ps_expr (pe_meth (E := E) (pv 0) T.cl mm2 G2 hr b2 .nil (passes_call (takes_of rfl rfl rfl rfl) fun _ _ _ _ h => h) (pa_cons (pv 4) (pa_cons pe_str pa_nil))))
    (pss_cons (ps_expr (pe_call (E := fun _ _ _ => False) G3 hr (by rfl) g3 k3 b3 .nil (passes_call (takes_of rfl rfl rfl rfl) fun _ _ _ _ h => h.elim) (pa_cons (pv 2) pa_nil)))
    (pss_cons (ps_if (pt_not (pt_val (pe_call (E := E0) G4 hr (by rfl) g4 k4 b4 .nil pass0 (pa_cons (pv 3) pa_nil)))) pss_dead' pss_nil)
    (pss_one (ps_dput hu (pe_dget hu (pe_fld (pv 0) rfl) (pv 4) (fun _ _ => rfl)) (pe_call (E := E0) G5 hr (by rfl) g5 k5 b5 .nil pass0 (pa_cons (pv 2) pa_nil)) (pe_callTy call_int1 (by rfl) B.int bInt (pa_cons (pv 3) pa_nil)) rfl))))), ?_⟩
  refine q_asg (ev_known rfl rfl rg hm) fun H1 e1 => ?_
  have rg1 := rg.ex e1
  refine q_dropAny ⟨.ref x, rfl, x, A'.dx, _, rfl, rg1.ob, rfl, .str m, rfl, x, m, "running", HB, A', U, R, rfl, rg1, hm, fun hrun H2 e2 => ?_, fun hne dx H' r => qe hne dx H' (r.back e1)⟩
  have cpn : cpyTo n (.str l) := ⟨rfl, by show 0 < n; omega⟩
  refine q_dropAny ⟨.str l, rfl, .str l, .str l, rfl, .str l, sm_name hl, cpn, fun _ H3 e3 => ?_, fun z => ?_⟩
  · refine q_when (b := false) (et_is (et_not (et_B (ev_call (ea_cons (ev_var rfl) ea_nil) (spv_D (f := isInteger) (Dt.int i) (by rfl))))) (by rfl)) (fun z => nomatch z) (fun _ H4 e4 => ?_)
    have e14 := ((e1.trans e2).trans e3).trans e4
    obtain ⟨a, e, hg, ha, mem, hv⟩ := xrow_get rg hm
    refine ev_cb (ea_cons (ev_var (i := 3) rfl) ea_nil) (z := .int i) (fun H5 e5 Q q => .inl ⟨i, rfl, q H5 (Ex.refl H5)⟩) H4 (Ex.refl H4) _ fun H5 e5 => ?_
    have e15 := e14.trans e5
    refine ev_dgRd (x := m) (v := .ref a) (ev_fld (ev_var (i := 0) rfl) (e15 _ _ rg.ob) T.cl T.nX (flR_X A')) (ev_var (i := 4) rfl) (.inl (e15 _ _ rg.hX)) hv H5 (Ex.refl H5) _ fun H6 e6 => ?_
    refine ev_bareW (ev_var (i := 2) rfl) hl H6 (Ex.refl H6) _ fun H7 e7 => ?_
    have e17 := (e15.trans e6).trans e7
    have rg7 := rg.ex e17
    have to := rg7.setXi (l := l) (i := i) hg
    have dp := DPut.k (k := Sum.inr l) (v := .int i) (e17 _ _ ha) (by
      unfold kvInt
      rw [List.length_map, sizeLine_eq]
      have := few _ mem
      show e.length < _
      have : e.length ≤ 1000 := this
      omega)
    have pe : putK (kvInt e) (.inr l) (.int i) = kvInt (putA e l i) := putK_map V.int e l i
    rw [pe] at dp
    refine ⟨a, _, rfl, dp, ?_⟩
    exact q hrun a e _ hg (RgTo.from e17 to)
  · rw [show isName (.str l) = true from hl] at z; cases z
theorem ok_rfi {f C CG CW : Addr} {fd : FuncData} {k n : Nat} (F : Fun K "finish" "Registry.finish" sRFi f fd) (T : RgC K mg C) (TN : NdC K mg CG) (h1 : HasM P w K mg base CX0 k C "known" ["self", "value"] (spRKn C CG)) (h2 : HasM P w K mg base (L2.CX P w) k C "check_state" ["self", "module", "state"] (spRCs C CG CW)) (h3 : HasM P w K mg base CX0 k C "in_state" ["self", "state"] (spRIn C CG)) (h4 : HasM P w K mg base CX0 k C "is_complete" ["self", "module"] (spRIc C CG)) (h5 : HasM P w K mg base CX0 k CG "delete_all" ["self", "source"] (spDelAll CG)) : FnOk P w K mg base (L2.CX P w) (k + 1) f fd ["self", "module"] (spRFi C CG CW) := by
  obtain ⟨f1, d1, G1, b1, mm1⟩ := h1.ex
  obtain ⟨f2, d2, G2, b2, mm2⟩ := h2.ex
  obtain ⟨f3, d3, G3, b3, mm3⟩ := h3.ex
  obtain ⟨f4, d4, G4, b4, mm4⟩ := h4.ex
  obtain ⟨f5, d5, G5, b5, mm5⟩ := h5.ex
  refine F.okX scRFi (fun vs H Q E h => by obtain ⟨_, _, _, _, _, _, rfl, _⟩ := h; rfl) (fun cdv A outer s0 H vs Q E hr h => ?_)
  obtain ⟨x, m, HB, A', U, R, rfl, rg, hm, q, qe⟩ := h
  have hu := hu_of hr
  refine ⟨_, pss_cons (ps_expr (pe_meth (E := E) (pv 0) T.cl mm2 G2 hr b2 .nil (passes_call (takes_of rfl rfl rfl rfl) fun _ _ _ _ h => h) (pa_cons (pe_meth (E := E0) (pv 0) T.cl mm1 G1 hr b1 .nil pass0 (pa_cons (pv 1) pa_nil)) (pa_cons pe_str pa_nil))))
    (pss_cons (ps_dput hu (pe_fld (pv 0) rfl) (pv 1) pe_str rfl)
    (pss_cons (ps_setLc (i := 2) (own := [("other", 3)]) (g := gName 3) (tt := tB (tMeth C "is_complete" (spRIc C CG) [] E0 (tVar 0) (tCons (tVar 3) tNil))) (te := tVar 3) rfl scRFi.nd rfl rfl (sw_true rfl rfl rfl (by decide +kernel)) (pi_list (pe_meth (E := E0) (pv 0) T.cl mm3 G3 hr b3 .nil pass0 (pa_cons pe_str pa_nil))) (blkOk_by (own := [("other", 3)]) (N := nRFi) (sc := defScope sRFi) (by decide +kernel))
      (fun _ _ _ _ _ => pg_name (i := 3) scRFi.nd rfl (Or.inl rfl)) (fun _ _ _ _ _ => by exact pts_one (pt_val (pe_meth (E := E0) (pv 0) T.cl mm4 G4 hr b4 .nil pass0 (pa_cons (pv 3) pa_nil)))) (fun _ _ _ _ _ => by exact pv 3))
    (pss_cons (ps_for (passes_of rfl) rfl (pi_list (pv 2)) (pg_name (i := 3) scRFi.nd rfl (.inl rfl))
      (pss_cons (ps_dput hu (pe_fld (pv 0) rfl) (pv 3) pe_str rfl)
      (pss_one (ps_expr (pe_meth (E := E0) (pe_fld (pv 0) rfl) TN.cl mm5 G5 hr b5 .nil pass0 (pa_cons (pv 3) pa_nil))))))
    (pss_one (ps_ret (pv 2)))))), ?_⟩
  refine q_dropAny ⟨.ref x, rfl, x, A'.dx, _, rfl, rg.ob, rfl, ?_⟩
  refine ev_known (i := 0) (j := 1) rfl rfl rg hm H (Ex.refl H) _ fun H1 e1 => ?_
  refine ⟨x, m, "running", HB, A', U, R, rfl, rg.ex e1, hm, fun hrun H2 e2 => ?_, fun hne dx H' r => qe hne dx H' (r.back e1)⟩
  have e12 := e1.trans e2
  have rg2 := rg.ex e12
  obtain ⟨dp, to3⟩ := rg2.putS hm (v := "done") (by decide +kernel)
  refine ⟨.ref x, rfl, x, C, A'.dx, _, .ref A'.aS, rfl, rg2.ob, T.cl, T.nS, flR_S A', .str m, rfl, A'.aS, _, rfl, dp, ?_⟩
  dsimp only
  have aS3 : (upd H2 A'.aS (.dK (kvSt (putA R.st m "done")))) A'.aS ≠ none := by rw [upd_same]; exact fun z => nomatch z
  have bk3 : ∀ c, (upd H2 A'.aS (.dK (kvSt (putA R.st m "done")))) c = none → H c = none := fun c z => by
    have ne : c ≠ A'.aS := fun e => by rw [e] at z; exact aS3 z
    rw [upd_ne ne] at z
    exact fresh_back e12 z
  obtain ⟨R1, hR1⟩ : ∃ R1, R1 = doneR R m := ⟨_, rfl⟩
  have to3' : RgTo C CG HB H (upd H2 A'.aS (.dK (kvSt (putA R.st m "done")))) x A' U R R1 := by rw [hR1]; exact RgTo.from e12 to3
  generalize upd H2 A'.aS (.dK (kvSt (putA R.st m "done"))) = H3 at to3' bk3
  have rg3 := to3'.1
  obtain ⟨cs, hcs⟩ : ∃ cs, cs = finL U R m := ⟨_, rfl⟩
  have csE : (inR U R1 "done").filter (complB R1) = cs := by rw [hcs, hR1]; rfl
  have csU : ∀ n ∈ cs, n ∈ U := fun n hn => by
    rw [← csE] at hn
    exact (List.mem_filter.mp (List.mem_filter.mp hn).1).1
  have ndU : U.Nodup := rise_nodup rg.wf.up
  have csN : cs.Nodup := by
    rw [← csE]
    exact (ndU.sublist List.filter_sublist).sublist List.filter_sublist
  have lc : EvL (tLc (iList K (tMeth C "in_state" (spRIn C CG) [] E0 (tVar 0) (tCons (tC (.str "done")) tNil))) (gName 3) (tB (tMeth C "is_complete" (spRIc C CG) [] E0 (tVar 0) (tCons (tVar 3) tNil))) (tVar 3) [3]) [some (.ref x), some (.str m), none, none] H3 (cs.map V.str) := by
    rw [← csE]
    refine el_namesW (K := K) (j := 3) (complB R1) V.str (fun Ha ea Q' q' => ⟨.ref x, rfl, x, A'.dx, _, rfl, (rg3.ex ea).ob, rfl, x, "done", HB, A', U, R1, rfl, rg3.ex ea, by decide +kernel, fun l H' z e' hl => q' l H' z e' hl⟩) ?_ (fun _ => rfl) (fun n Ha ea hn => ?_) (fun n Ha ea hn _ => ev_var rfl)
    · have := List.length_filter_le (fun y => decide (stM R1 y = "done")) U
      have := rg.wf.u40
      unfold inR
      omega
    · have hnU : n ∈ U := (List.mem_filter.mp hn).1
      exact et_B (ev_mthR (ev_var rfl) (rg3.ex ea).ob rfl (ea_cons (ev_var rfl) ea_nil) fun Hb eb Q' q' E' => ⟨x, n, HB, A', U, R1, rfl, (rg3.ex ea).ex eb, hnU, q'⟩)
  refine q_asgL lc fun cl H4 zcl e4 hcl => ?_
  have rg4 := rg3.ex e4
  have ncl : cl ∉ ownR A' R1 := fun z => by
    obtain ⟨o, ho, _⟩ := rg3.own_some z
    rw [zcl] at ho
    cases ho
  have nclT : ∀ {Ri : Rg} {H' : Hp}, RgTo C CG HB H4 H' x A' U R1 Ri → cl ∉ ownR A' Ri ∧ H' cl = some (.lst (cs.map V.str)) := fun {Ri H'} to => ⟨fun z => by
    exact (to.2.2 cl z).elim ncl (fun y => by rw [hcl] at y; cases y), to.2.1 cl _ ncl hcl⟩
  show tSeq _ _ _ [some (.ref x), some (.str m), some (.ref cl), none] H4
  refine ⟨.ref cl, rfl, cl, rfl, ⟨_, sq_of hcl⟩, for_list (xs := cs.map V.str) (fun i σ' H' => ∃ (y3 : Option V) (Ri : Rg), σ' = [some (.ref x), some (.str m), some (.ref cl), y3] ∧ RgTo C CG HB H4 H' x A' U R1 Ri ∧ Ri.ex = R.ex ∧ Ri.ch = R.ch ∧ Ri.hd = R.hd ∧ Ri.g = R.g ∧ Ri.ge = R.ge ∧ (∀ y, stM Ri y = if y ∈ cs.take i then ("ready" : Str) else stM R1 y) ∧ ∀ q : Pr, q.2 ∈ tgS Ri.ga q.1 ↔ (q.2 ∈ tgS R.ga q.1 ∧ q.1 ∉ cs.take i))
    ⟨none, R1, rfl, RgTo.refl rg4, by rw [hR1]; rfl, by rw [hR1]; rfl, by rw [hR1]; rfl, by rw [hR1]; rfl, by rw [hR1]; rfl, fun y => by rw [List.take_zero, if_neg (fun z => nomatch z)], fun q => by
      rw [List.take_zero, hR1]
      exact ⟨fun z => ⟨z, fun y => nomatch y⟩, fun z => z.1⟩⟩ (fun i σ' H' _ hP => ?_) (fun i v σ' H5 hv hP => ?_) (fun σ' H5 hP => ?_)⟩
  · obtain ⟨_, Ri, _, to, _⟩ := hP
    exact sq_of (nclT to).2
  · obtain ⟨y3, Ri, rfl, to, h1, h2, h3, h4, h5, hst, hga⟩ := hP
    have hil : i < cs.length := by
      have := (List.getElem?_eq_some_iff.mp hv).1
      rw [List.length_map] at this
      exact this
    rw [List.getElem?_map, List.getElem?_eq_getElem hil] at hv
    cases hv
    have htk : cs.take (i + 1) = cs.take i ++ [cs[i]] := List.take_succ_eq_append_getElem hil
    have hmem := List.getElem_mem hil
    rw [htk]
    generalize cs[i] = n at htk hmem
    have hnU := csU n hmem
    have nn := rg.wf.un n hnU
    have rg5 := to.1
    show tSeq _ _ _ [some (.ref x), some (.str m), some (.ref cl), some (.str n)] H5
    obtain ⟨dp, to6⟩ := rg5.putS hnU (v := "ready") (by decide +kernel)
    refine ⟨.ref x, rfl, x, C, A'.dx, _, .ref A'.aS, rfl, rg5.ob, T.cl, T.nS, flR_S A', .str n, rfl, A'.aS, _, rfl, dp, ?_⟩
    dsimp only
    have rg6 := to6.1
    refine ⟨.ref x, rfl, x, C, A'.dx, _, .ref A'.gA.x, rfl, rg6.ob, T.cl, T.nA, flR_A A', A'.gA.x, A'.gA.a.dx, _, rfl, rg6.nA.ob, rfl, .str n, rfl, ?_⟩
    dsimp only [tNil, List.nil_append, List.cons_append]
    show spDelAll CG [.ref A'.gA.x, .str n] _ _ _
    refine delAll_of rg6.nA nn fun g7 H7 b7 nd7 iff7 new7 => ?_
    have to7 := rg6.setA (l := [A'.gA.a.dd]) b7 (fun a ha => by rw [List.mem_singleton.mp ha]; exact List.mem_cons_self) nd7 fun r hr => .inl (List.mem_cons_of_mem _ (List.mem_map_of_mem (new7 r hr)))
    refine ⟨_, _, rfl, to.trans (to6.trans to7), h1, h2, h3, h4, h5, fun y => ?_, fun q => ?_⟩
    · show stM { Ri with st := putA Ri.st n "ready" } y = _
      rw [stM_put, hst y]
      by_cases e : y = n
      · rw [if_pos e, if_pos (List.mem_append_right _ (List.mem_singleton.mpr e))]
      · rw [if_neg e]
        by_cases h : y ∈ cs.take i
        · rw [if_pos h, if_pos (List.mem_append_left _ h)]
        · rw [if_neg h, if_neg fun z => (List.mem_append.mp z).elim h fun z => e (List.mem_singleton.mp z)]
    · refine (iff7 q).trans ?_
      rw [show ({ Ri with st := putA Ri.st n "ready" } : Rg).ga = Ri.ga from rfl, hga q]
      constructor
      · rintro ⟨⟨a, b⟩, c⟩
        exact ⟨a, fun z => (List.mem_append.mp z).elim b fun z => c (List.mem_singleton.mp z)⟩
      · rintro ⟨a, b⟩
        exact ⟨⟨a, fun z => b (List.mem_append_left _ z)⟩, fun z => b (List.mem_append_right _ (List.mem_singleton.mpr z))⟩
  · obtain ⟨y3, Ri, rfl, to, h1, h2, h3, h4, h5, hst, hga⟩ := hP
    rw [List.length_map, List.take_length] at hst hga
    obtain ⟨n1, n2⟩ := nclT to
    refine s_ret (ev_var rfl) fun H6 e6 => ?_
    refine q hrun Ri cl H6 (bk3 cl zcl) n1 (((to3'.ex e4).trans to).ex e6) (by rw [← hcs]; exact e6 _ _ n2) ?_
    rw [← hcs]
    refine ⟨h1, h2, h3, h4, h5, fun y => ?_, hga⟩
    rw [hst y, hR1]
    unfold doneR
    rw [stM_put]
end
end Cr
/-! the tables of sets, up to 512 slots: rows of a hash and its slot -/
namespace Cr
open PySem PySem.Spec PyProof.Rows L2
def Msk (m : Nat) : Prop := m = 7 ∨ m = 31 ∨ m = 127 ∨ m = 511
def orb (m : Nat) : Nat → Nat → List Nat
  | 0, _ => []
  | k + 1, i => i :: orb m k ((i * 5 + 1) % (m + 1))
theorem lcg_head (m i : Nat) : ∀ n, lcgI m ((i * 5 + 1) % (m + 1)) n = lcgI m i (n + 1)
  | 0 => rfl
  | n + 1 => congrArg (fun z => (z * 5 + 1) % (m + 1)) (lcg_head m i n)
theorem orb_mem (m : Nat) : ∀ k i j, j ∈ orb m k i → ∃ n, n < k ∧ lcgI m i n = j
  | 0, _, _, h => nomatch h
  | k + 1, i, j, h => by
    rcases List.mem_cons.mp h with rfl | h
    · exact ⟨0, Nat.succ_pos k, rfl⟩
    · obtain ⟨n, hn, e⟩ := orb_mem m k _ j h
      exact ⟨n + 1, Nat.succ_lt_succ hn, (lcg_head m i n).symm.trans e⟩
def orbOk (m : Nat) : Bool := ((List.range (m + 1)).all fun j => (orb m (m + 1) 0).contains j) && lcgI m 0 (m + 1) == 0
theorem orb7 : orbOk 7 = true := by decide +kernel
theorem orb31 : orbOk 31 = true := by decide +kernel
theorem orb127 : orbOk 127 = true := by decide +kernel
theorem orb511 : orbOk 511 = true := by decide +kernel
theorem Msk.orb {m : Nat} (h : Msk m) : orbOk m = true := by
  rcases h with rfl | rfl | rfl | rfl
  · exact orb7
  · exact orb31
  · exact orb127
  · exact orb511
theorem Msk.odd {m : Nat} (h : Msk m) : m % 2 = 1 := by rcases h with rfl | rfl | rfl | rfl <;> rfl
theorem Msk.le {m : Nat} (h : Msk m) : m ≤ 511 := by rcases h with rfl | rfl | rfl | rfl <;> decide
theorem lcg_cat (m i : Nat) (a : Nat) : ∀ b, lcgI m (lcgI m i a) b = lcgI m i (a + b)
  | 0 => rfl
  | b + 1 => congrArg (fun z => (z * 5 + 1) % (m + 1)) (lcg_cat m i a b)
/-- a round of the leaps meets every slot -/
theorem Msk.round {m : Nat} (h : Msk m) {i j : Nat} (hi : i ≤ m) (hj : j ≤ m) : ∃ n, n ≤ m ∧ lcgI m i n = j := by
  have ok := h.orb
  unfold orbOk at ok
  rw [Bool.and_eq_true, List.all_eq_true, beq_iff_eq] at ok
  have from0 : ∀ x, x ≤ m → ∃ n, n < m + 1 ∧ lcgI m 0 n = x := fun x hx =>
    orb_mem m _ _ _ (List.contains_iff_mem.mp (ok.1 x (List.mem_range.mpr (Nat.lt_succ_of_le hx))))
  obtain ⟨a, la, rfl⟩ := from0 i hi
  obtain ⟨b, lb, rfl⟩ := from0 j hj
  by_cases c : a ≤ b
  · exact ⟨b - a, by omega, by rw [lcg_cat]; congr 1; omega⟩
  · refine ⟨(m + 1 - a) + b, by omega, ?_⟩
    rw [lcg_cat, show a + (m + 1 - a + b) = (m + 1) + b by omega, ← lcg_cat, ok.2]
theorem Msk.starts {m : Nat} (hm : Msk m) (h : Int) {j : Nat} (hj : j ≤ m) : ∃ n, n ≤ m + 12 ∧ runI m (SetTable.bits h) n = j := by
  obtain ⟨n, ln, e⟩ := hm.round (runI_le m (SetTable.bits h) 12) hj
  refine ⟨12 + n, by omega, ?_⟩
  rw [runI_tail (bits_lt h), e]
theorem Msk.meets {m : Nat} (hm : Msk m) (h : Int) {j : Nat} (hj : j ≤ m) : ∃ k, k < 10 * SetTable.turns m ∧ way m h k = j := by
  obtain ⟨n, ln, e⟩ := hm.starts h hj
  obtain ⟨k, lk, e2⟩ := run_nth m (SetTable.bits h) n
  refine ⟨k, ?_, (congrArg SetTable.Probe.j e2).trans e⟩
  unfold SetTable.turns
  omega
theorem way_low (m : Nat) (h : Int) (k : Nat) : way m h k ≤ m := by
  have lo : SetTable.bits h % (m + 1) < m + 1 := Nat.mod_lt _ (Nat.succ_pos m)
  have z := nth_in (m := m) k (runAt m (SetTable.bits h % (m + 1)) (SetTable.bits h)) (by
    have r := runEnd_bd (Nat.le_of_lt_succ lo)
    unfold runAt
    dsimp only
    omega)
  exact Nat.le_trans (Nat.le_add_right _ _) z
/-- the first step of the way at which p -/
theorem first_slot {p : Nat → Prop} (n : Nat) (hn : p n) : ∃ k, k ≤ n ∧ p k ∧ ∀ c, c < k → ¬ p c := st_least n hn
/-! ### a table and its rows -/
structure Tbl (t : SetTable) (ps : List (Int × Nat)) : Prop where
  at_ : t.place.toList = ps.map (·.2)
  up : Ris (ps.map (·.2))
  nodm : t.dummies = #[]
  msk : Msk t.mask
  low : ∀ p ∈ ps, p.2 ≤ t.mask
  goes : ∀ p ∈ ps, ∃ k, way t.mask p.1 k = p.2 ∧ ∀ c, c < k → way t.mask p.1 c ∈ ps.map (·.2)
section
variable {t : SetTable} {ps : List (Int × Nat)}
theorem Tbl.size (T : Tbl t ps) : t.place.size = ps.length := by
  have z := congrArg List.length T.at_
  rwa [Array.length_toList, List.length_map] at z
theorem Tbl.ris (T : Tbl t ps) : Ris t.place.toList := by rw [T.at_]; exact T.up
theorem Tbl.fits (T : Tbl t ps) (h : ps.length ≤ t.mask) : t.fits ps.length = true := by
  unfold SetTable.fits SetTable.fill
  rw [T.nodm, T.size]
  simp
  exact h
theorem Tbl.free (T : Tbl t ps) (hl : ps.length ≤ t.mask) (h : Int) : ∃ K, K < 10 * SetTable.turns t.mask ∧ way t.mask h K ∉ ps.map (·.2) ∧ ∀ c, c < K → way t.mask h c ∈ ps.map (·.2) := by
  obtain ⟨j, hj, hn⟩ := st_missing (ps.map (·.2)) (t.mask + 1) (by rw [List.length_map]; omega)
  obtain ⟨k, lk, e⟩ := T.msk.meets h (Nat.le_of_lt_succ hj)
  obtain ⟨K, l1, l2, l3⟩ := first_slot (p := fun c => way t.mask h c ∉ ps.map (·.2)) k (by show way t.mask h k ∉ _; rw [e]; exact hn)
  exact ⟨K, Nat.lt_of_le_of_lt l1 lk, l2, fun c hc => Classical.not_not.mp (l3 c hc)⟩
/-- a row's slot is met ahead of the first free one -/
theorem Tbl.ahead (T : Tbl t ps) {p : Int × Nat} (hp : p ∈ ps) {K : Nat} (hK : way t.mask p.1 K ∉ ps.map (·.2)) : ∃ c, c < K ∧ way t.mask p.1 c = p.2 := by
  obtain ⟨k, e, hb⟩ := T.goes p hp
  refine ⟨k, ?_, e⟩
  rcases Nat.lt_trichotomy k K with z | z | z
  · exact z
  · subst z
    exact absurd (List.mem_map.mpr ⟨p, hp, e.symm⟩) hK
  · exact absurd (hb K z) hK
abbrev ins {α : Type} (l : List α) (b : Nat) (x : α) : List α := l.take b ++ x :: l.drop b
theorem map_ins {α β : Type} (f : α → β) (l : List α) (b : Nat) (x : α) : (ins l b x).map f = ins (l.map f) b (f x) := by
  unfold ins
  rw [List.map_append, List.map_cons, List.map_take, List.map_drop]
theorem ins_perm {α : Type} (l : List α) (b : Nat) (x : α) : (ins l b x).Perm (x :: l) := by
  have z : (ins l b x).Perm (x :: (l.take b ++ l.drop b)) := List.perm_middle
  rwa [List.take_append_drop] at z
/-- a row more -/
theorem Tbl.more (T : Tbl t ps) {h : Int} {K : Nat} (hK : way t.mask h K ∉ ps.map (·.2)) (hb : ∀ c, c < K → way t.mask h c ∈ ps.map (·.2)) :
    (t.put (way t.mask h K)).2 = SetTable.below t.place (way t.mask h K) ∧ Tbl (t.put (way t.mask h K)).1 (ins ps (SetTable.below t.place (way t.mask h K)) (h, way t.mask h K)) ∧
    (t.put (way t.mask h K)).1.mask = t.mask ∧ (t.put (way t.mask h K)).1.led = t.led := by
  have lo := way_low t.mask h K
  obtain ⟨j, ej⟩ : ∃ j, j = way t.mask h K := ⟨_, rfl⟩
  rw [← ej] at hK lo ⊢
  have nat : t.place[SetTable.below t.place j]? ≠ some j := fun e => hK (by
    rw [← T.at_]
    exact List.mem_of_getElem? (by rw [Array.getElem?_toList]; exact e))
  have pm := ins_perm ps (SetTable.below t.place j) (h, j)
  have pl : (t.put j).1.place.toList = (ins ps (SetTable.below t.place j) (h, j)).map (·.2) := by
    rw [put_place, map_ins, T.at_]
  have up : ∀ {x : Nat}, x ∈ ps.map (·.2) → x ∈ (ins ps (SetTable.below t.place j) (h, j)).map (·.2) := fun {x} hx =>
    (pm.map (·.2)).mem_iff.mpr (List.mem_cons_of_mem _ hx)
  refine ⟨rfl, ⟨pl, ?_, put_dm T.nodm j, T.msk, fun p hp => ?_, fun p hp => ?_⟩, rfl, rfl⟩
  · have z : Ris (t.put j).1.place.toList := ris_insert T.ris nat
    rwa [pl] at z
  · rcases List.mem_cons.mp (pm.mem_iff.mp hp) with rfl | hp
    · exact lo
    · exact T.low p hp
  · show ∃ k, way t.mask p.1 k = p.2 ∧ _
    rcases List.mem_cons.mp (pm.mem_iff.mp hp) with rfl | hp
    · exact ⟨K, ej.symm, fun c hc => up (hb c hc)⟩
    · obtain ⟨k, e, z⟩ := T.goes p hp
      exact ⟨k, e, fun c hc => up (z c hc)⟩
end
/-! ### all laid anew -/
theorem lay_free {m : Nat} (hm : Msk m) (ow : Array (Option Nat)) (h : Int) {j : Nat} (hj : j ≤ m) (e0 : oAt ow j = none) :
    ∃ K, SetTable.layClean.free m ow (SetTable.turns m) (SetTable.bits h % (m + 1)) (SetTable.bits h) = some (way m h K) ∧ oAt ow (way m h K) = none ∧ ∀ c, c < K → oAt ow (way m h c) ≠ none := by
  obtain ⟨n, ln, e⟩ := hm.starts h hj
  have at_ : way m h (off m (SetTable.bits h % (m + 1)) (SetTable.bits h) n) = j := by
    have z := nth_off m n (SetTable.bits h % (m + 1)) (SetTable.bits h)
    rw [itL_run] at z
    exact (congrArg SetTable.Probe.j z).trans e
  obtain ⟨K, l1, l2, l3⟩ := first_slot (p := fun c => oAt ow (way m h c) = none) _ (by show oAt ow (way m h _) = none; rw [at_]; exact e0)
  refine ⟨K, free_spec m ow (SetTable.turns m) n _ _ K (by unfold SetTable.turns; omega) l1 (fun c hc => ?_) (by rw [Option.isNone_iff_eq_none]; exact l2), l2, l3⟩
  rw [Option.isNone_eq_false_iff, Option.isSome_iff_ne_none]
  exact l3 c hc
theorem lay_one {m : Nat} (hm : Msk m) {done : List Int} {ow : Array (Option Nat)} (W : Own m done ow) (hl : done.length ≤ m) (h : Int) :
    ∃ j, SetTable.layClean.free m ow (SetTable.turns m) (SetTable.bits h % (m + 1)) (SetTable.bits h) = some j ∧ Own m (done ++ [h]) (ow.setIfInBounds j (some done.length)) := by
  obtain ⟨qs, lq, hq⟩ := W.ps
  obtain ⟨i, li, ni⟩ := st_missing qs (m + 1) (by omega)
  have ei : oAt ow i = none := Classical.not_not.mp fun z => ni (hq i (Nat.le_of_lt_succ li) z)
  obtain ⟨K, e1, e2, e3⟩ := lay_free hm ow h (Nat.le_of_lt_succ li) ei
  have lo := way_low m h K
  refine ⟨way m h K, e1, ?_⟩
  generalize ej : way m h K = j at e1 e2 lo ⊢
  have here : oAt (ow.setIfInBounds j (some done.length)) j = some done.length := oAt_set_self _ (by rw [W.sz]; omega)
  have there : ∀ {i : Nat}, i ≠ j → oAt (ow.setIfInBounds j (some done.length)) i = oAt ow i := fun z => oAt_set_ne _ z
  have kept : ∀ {i : Nat}, oAt ow i ≠ none → oAt (ow.setIfInBounds j (some done.length)) i ≠ none := fun {i} z => by
    have ne : i ≠ j := fun e => z (by rw [e]; exact e2)
    rw [there ne]
    exact z
  exact
    { sz := by rw [Array.size_setIfInBounds, W.sz]
      at_ := fun i k li e => by
        by_cases c : i = j
        · subst c
          rw [here] at e
          cases e
          exact ⟨h, K, by rw [List.getElem?_append_right (Nat.le_refl _), Nat.sub_self]; rfl, ej, fun c hc => kept (e3 c hc)⟩
        · rw [there c] at e
          obtain ⟨g, G, a1, a2, a3⟩ := W.at_ i k li e
          exact ⟨g, G, by rw [List.getElem?_append_left (List.getElem?_eq_some_iff.mp a1).1, a1], a2, fun c hc => kept (a3 c hc)⟩
      all := fun k hk => by
        rw [List.length_append, List.length_singleton] at hk
        by_cases c : k = done.length
        · exact ⟨j, lo, c ▸ here⟩
        · obtain ⟨i, li, e⟩ := W.all k (by omega)
          exact ⟨i, li, by rw [there fun z => by rw [z, e2] at e; cases e]; exact e⟩
      ps := ⟨j :: qs, by rw [List.length_cons, List.length_append, List.length_singleton, lq], fun i li z => by
        by_cases c : i = j
        · exact c ▸ List.mem_cons_self
        · rw [there c] at z
          exact List.mem_cons_of_mem _ (hq i li z)⟩ }
theorem lay_all {m : Nat} (hm : Msk m) : ∀ (rest done : List Int) (ow : Array (Option Nat)), Own m done ow → (done ++ rest).length ≤ m →
    ∃ ow', rest.foldl (stepF m) (some (ow, done.length)) = some (ow', (done ++ rest).length) ∧ Own m (done ++ rest) ow'
  | [], done, ow, W, _ => by
    rw [List.append_nil]
    exact ⟨ow, rfl, W⟩
  | h :: rest, done, ow, W, hl => by
    have ea : done ++ h :: rest = (done ++ [h]) ++ rest := by rw [List.append_assoc, List.singleton_append]
    rw [List.length_append, List.length_cons] at hl
    obtain ⟨j, e, W1⟩ := lay_one hm W (by omega) h
    obtain ⟨ow', f, W2⟩ := lay_all hm rest (done ++ [h]) _ W1 (by rw [← ea, List.length_append, List.length_cons]; omega)
    rw [List.length_append, List.length_singleton] at f
    rw [List.foldl_cons, stepF_some e, ea]
    exact ⟨ow', f, W2⟩
/-- laid anew in a larger table: an order of the rows, and where they stand -/
theorem lay_anew (t : SetTable) {hs : Array Int} {wanted M : Nat} (hw : SetTable.sizeAbove wanted - 1 = M) (hM : Msk M) (hn : hs.size ≤ M) :
    ∃ (t' : SetTable) (js : List (Nat × Nat)), t.relaid hs wanted = some (t', (js.map (·.2)).toArray) ∧ (js.map (·.2)).Perm (List.range hs.size) ∧ Tbl t' (js.map fun q => (hs.toList.getD q.2 0, q.1)) ∧ t'.mask = M ∧ t'.led = t.led := by
  obtain ⟨ow, f, W⟩ := lay_all hM hs.toList [] _ (Own.init M) (by rw [List.nil_append, Array.length_toList]; exact hn)
  rw [List.nil_append] at f W
  have lc : SetTable.layClean M hs = some ow := by
    rw [layClean_eq]
    exact congrArg (Option.map (·.1)) f
  have rel : t.relaid hs wanted = some (tabOf t M ow, ((liveOf M ow).map (·.2)).toArray) := by
    rw [relaid_eq, hw, lc]
    rfl
  obtain ⟨r1, r2⟩ := ris_live (fun j => ow.getD j none) (List.range (M + 1)) (List.pairwise_lt_range (n := M + 1))
  have up : Ris ((liveOf M ow).map (·.1)) := r1
  have once : ((liveOf M ow).map (·.1)).Nodup := List.Pairwise.imp Nat.ne_of_lt up
  have covers : ∀ k, k < hs.size → k ∈ (liveOf M ow).map (·.2) := fun k hk => by
    obtain ⟨j, lj, e⟩ := W.all k hk
    exact List.mem_map.mpr ⟨(j, k), (mem_live W.sz).mpr ⟨lj, e⟩, rfl⟩
  have len : (liveOf M ow).length = hs.size := by
    obtain ⟨qs, lq, hq⟩ := W.ps
    have a := nat_nodup_len _ qs once fun j hj => by
      obtain ⟨⟨j', k⟩, hm, rfl⟩ := List.mem_map.mp hj
      obtain ⟨l1, l2⟩ := (mem_live W.sz).mp hm
      exact hq _ l1 (by rw [l2]; exact Option.some_ne_none k)
    have b := nat_nodup_len (List.range hs.size) _ List.nodup_range fun k hk => covers k (List.mem_range.mp hk)
    rw [List.length_map] at a b
    rw [List.length_range] at b
    have lz : qs.length = hs.size := lq
    omega
  refine ⟨_, liveOf M ow, rel, perm_range _ _ (by rw [List.length_map]; exact len) covers, ?_, rfl, rfl⟩
  have seats : (liveOf M ow).map (·.1) = ((liveOf M ow).map fun q => (hs.toList.getD q.2 0, q.1)).map (·.2) := by rw [List.map_map]; rfl
  refine ⟨seats, seats ▸ up, rfl, hM, fun p hp => ?_, fun p hp => ?_⟩
  · obtain ⟨⟨j, k⟩, hm, rfl⟩ := List.mem_map.mp hp
    exact ((mem_live W.sz).mp hm).1
  · obtain ⟨⟨j, k⟩, hm, rfl⟩ := List.mem_map.mp hp
    obtain ⟨lj, e⟩ := (mem_live W.sz).mp hm
    obtain ⟨g, K, a1, a2, a3⟩ := W.at_ j k lj e
    have eg : hs.toList.getD k 0 = g := by rw [List.getD_eq_getElem?_getD, a1]; rfl
    show ∃ c, way M (hs.toList.getD k 0) c = j ∧ _
    rw [eg]
    refine ⟨K, a2, fun c hc => ?_⟩
    show way M g c ∈ _
    rw [← seats]
    obtain ⟨k2, e2⟩ := Option.ne_none_iff_exists'.mp (a3 c hc)
    exact List.mem_map.mpr ⟨(_, k2), (mem_live W.sz).mpr ⟨way_low M g c, e2⟩, rfl⟩
theorem grown5 : SetTable.sizeAbove (SetTable.grown 5) - 1 = 31 := by decide +kernel
theorem grown19 : SetTable.sizeAbove (SetTable.grown 19) - 1 = 127 := by decide +kernel
theorem grown77 : SetTable.sizeAbove (SetTable.grown 77) - 1 = 511 := by decide +kernel
end Cr
/-! sets of tuples of texts: a tuple is added -/
namespace Cr
open PySem PySem.Spec PyProof.Rows L2
abbrev IsTx (P : Program) (w : World) (h : Heap) (k : List Str) (a : Addr) : Prop := IsTupleKey (PySem.strKind P w) h k a
abbrev hTx (P : Program) (w : World) (k : List Str) : Int := tupleKeyHash (PySem.strKind P w) k
abbrev TRow := Addr × List Str
def rowV (P : Program) (w : World) (p : TRow) : Int × Value := (hTx P w p.2, .ref p.1)
/-- the c-th state of a search -/
abbrev pr (m : Nat) (h : Int) (c : Nat) : SetTable.Probe := nth m (runAt m (SetTable.bits h % (m + 1)) (SetTable.bits h)) c
theorem pr_add (m : Nat) (h : Int) (c q : Nat) : nth m (pr m h c) q = pr m h (c + q) := (nth_add m c _ q).symm
theorem pr_dm (m : Nat) (h : Int) : ∀ c, (pr m h c).dummy = none
  | 0 => rfl
  | c + 1 => by
    have z := pr_dm m h c
    show (nth m _ (c + 1)).dummy = none
    rw [nth_succ]
    unfold adv
    split <;> exact z
section
variable {P : Program} {w : World} {A : Around} {E : Value → Shared → Prop} {s : Shared}
theorem tx_items {k : List Str} {vs : List Value} (h : ItemsAre (PySem.strKind P w) k vs) : ∀ v ∈ vs, ∃ x tk, v = Value.str x tk := by
  induction h with
  | nil => exact fun v hv => nomatch hv
  | cons h1 _ ih =>
    intro v hv
    rcases List.mem_cons.mp hv with rfl | hv
    · cases v with
      | str x tk => exact ⟨x, tk, rfl⟩
      | _ => cases h1
    · exact ih v hv
theorem tx_class {k : List Str} {b : Addr} {Q : Bool → Shared → Prop} (hk : IsTx P w s.heap k b) (h : Q false s) : wpAny (model P w) A (ofAClassStatement 8 (.ref b)) Q E s := by
  have ty := hk.typeIs
  obtain ⟨o, items, n, ho, _, hd, hi⟩ := hk
  have all := tx_items hi
  unfold ofAClassStatement
  refine wpAny_bind (wpAny_typeOf ty ?_)
  simp only [show (("tuple" : String) == "tuple") = true from rfl, if_true]
  try refine wpAny_bind (wpAny_pure ?_)
  try simp only [Bool.not_true, Bool.false_eq_true, if_false]
  refine wpAny_bind (wpAny_seqItems ho hd (wpAny_bind ?_))
  rw [← Array.forIn_toList]
  refine wpAny_forIn_list _ (fun rest r s' => (s' = s ∧ r.1 = none) ∧ ∀ v ∈ rest, ∃ x tk, v = Value.str x tk) _ (fun v rest r s' z => ?_) (fun r s' z => ?_) _ _ ⟨⟨rfl, rfl⟩, all⟩
  · obtain ⟨⟨rfl, _⟩, c⟩ := z
    obtain ⟨x, tk, rfl⟩ := c v List.mem_cons_self
    exact wpAny_bind (wpAny_pure (wpAny_pure ⟨⟨rfl, rfl⟩, fun u hu => c u (List.mem_cons_of_mem _ hu)⟩))
  · obtain ⟨⟨rfl, e⟩, _⟩ := z
    rcases r with ⟨r1, r2⟩
    cases e
    exact wpAny_pure h
theorem tx_byValue {k : List Str} {b : Addr} {Q : Bool → Shared → Prop} (hk : IsTx P w s.heap k b) (h : ∀ z, Q z s) : wpAny (model P w) A (hashByValue 8 (.ref b)) Q E s := by
  have ty := hk.typeIs
  obtain ⟨o, items, n, ho, _, hd, hi⟩ := hk
  have all := tx_items hi
  unfold hashByValue
  refine wpAny_bind (wpAny_specialOf ty F.slot_tuple_hash.lookup ?_)
  show wpAny _ _ (seqItems? (.ref b) >>= _) _ _ s
  refine wpAny_bind (wpAny_seqItems ho hd (wpAny_bind ?_))
  show wpAny _ _ (forIn items _ _) _ _ s
  rw [← Array.forIn_toList]
  cases hz : items.toList with
  | nil => exact wpAny_pure (wpAny_pure (h true))
  | cons v rest =>
    obtain ⟨x, tk, rfl⟩ := all v (by rw [hz]; exact List.mem_cons_self)
    rw [List.forIn_cons]
    refine wpAny_bind (wpAny_bind (wpAny_pure ?_))
    exact wpAny_pure (wpAny_pure (wpAny_pure (h false)))
/-- nothing is seen of a search -/
theorem tx_unseen {k : List Str} {b : Addr} {Q : Bool → Shared → Prop} (hk : IsTx P w s.heap k b) {ys : List Value} (hy : ∀ y ∈ ys, ∃ g c, y = Value.ref c ∧ IsTx P w s.heap g c) (h : Q false s) :
    wpAny (model P w) A (searchCouldBeSeen (.ref b) ys) Q E s := by
  unfold searchCouldBeSeen
  refine wpAny_bind (wpAny_forIn_list _ (fun rest r s' => (s' = s ∧ r.1 = none) ∧ ∀ y ∈ rest, ∃ g c, y = Value.ref c ∧ IsTx P w s.heap g c) _ (fun v rest r s' z => ?_) (fun r s' z => ?_) _ _ ⟨⟨rfl, rfl⟩, hy⟩)
  · obtain ⟨⟨rfl, _⟩, all⟩ := z
    obtain ⟨g, c, rfl, hc⟩ := all v List.mem_cons_self
    have tl : ∀ y ∈ rest, ∃ g c, y = Value.ref c ∧ IsTx P w s'.heap g c := fun u hu => all u (List.mem_cons_of_mem _ hu)
    dsimp only
    by_cases q : (b == c || (carriedByValue (.ref b) && carriedByValue (.ref c))) = true
    · exact wp_if_pos q (wpAny_pure ⟨⟨rfl, rfl⟩, tl⟩)
    · refine wp_if_neg q (wpAny_bind (wpAny_eqIsQuiet_tuple hk (wp_if_neg Bool.false_ne_true ?_)))
      refine wpAny_bind (wpAny_eqIsQuiet_tuple hc (wp_if_neg Bool.false_ne_true ?_))
      refine wpAny_bind (tx_class hk (wp_if_neg Bool.false_ne_true ?_))
      refine wpAny_bind (tx_class hc (wp_if_neg Bool.false_ne_true ?_))
      exact wpAny_pure ⟨⟨rfl, rfl⟩, tl⟩
  · obtain ⟨⟨rfl, e⟩, _⟩ := z
    rcases r with ⟨r1, r2⟩
    cases e
    exact wpAny_pure h
end
/-- the set at a, its rows in the order of their slots -/
structure TSet (P : Program) (w : World) (h : Heap) (a : Addr) (L : List TRow) (es : Array (Int × Value)) (ep : Nat) (t : SetTable) (ps : List (Int × Nat)) : Prop where
  ob : ∃ o, h.get? a = some o ∧ o.ExactSet ∧ o.data = .set es ep t
  rows : es.toList = L.map (rowV P w)
  tbl : Tbl t ps
  hash : ps.map (·.1) = L.map fun p => hTx P w p.2
  once : (L.map (·.2)).Nodup
  tup : ∀ p ∈ L, IsTx P w h p.2 p.1
  led : w.params.followText "set-order" = true ∨ t.led = true
  room : L.length * 5 < t.mask * 3
section
variable {P : Program} {w : World} {A : Around} {E : Value → Shared → Prop} {s : Shared} {a : Addr} {L : List TRow} {es : Array (Int × Value)} {ep : Nat} {t : SetTable} {ps : List (Int × Nat)}
theorem TSet.len {h : Heap} (R : TSet P w h a L es ep t ps) : ps.length = L.length ∧ es.size = L.length := by
  have z1 := congrArg List.length R.hash
  have z2 := congrArg List.length R.rows
  rw [List.length_map, List.length_map] at z1
  rw [List.length_map, Array.length_toList] at z2
  exact ⟨z1, z2⟩
theorem TSet.fits {h : Heap} (R : TSet P w h a L es ep t ps) : t.fits es.size = true := by
  have ⟨l1, l2⟩ := R.len
  have rm := R.room
  rw [l2, ← l1]
  exact R.tbl.fits (by omega)
theorem TSet.entry {h : Heap} (R : TSet P w h a L es ep t ps) {i : Nat} {p : TRow} (e : L[i]? = some p) : es[i]? = some (rowV P w p) := by
  rw [← Array.getElem?_toList, R.rows, List.getElem?_map, e]
  rfl
/-- what stands in the i-th slot -/
theorem TSet.row {h : Heap} (R : TSet P w h a L es ep t ps) {i j : Nat} (e : t.place.toList[i]? = some j) : ∃ p, L[i]? = some p := by
  rw [R.tbl.at_, List.getElem?_map, Option.map_eq_some_iff] at e
  obtain ⟨q, e, _⟩ := e
  have lt := (List.getElem?_eq_some_iff.mp e).1
  rw [R.len.1] at lt
  exact ⟨_, List.getElem?_eq_getElem lt⟩
theorem TSet.slot {h : Heap} (R : TSet P w h a L es ep t ps) {i : Nat} {p : TRow} (e : L[i]? = some p) : ∃ q, ps[i]? = some q ∧ q.1 = hTx P w p.2 ∧ t.place.toList[i]? = some q.2 := by
  have z := congrArg (fun l => l[i]?) R.hash
  rw [List.getElem?_map, List.getElem?_map, e] at z
  obtain ⟨q, e1, e2⟩ := Option.map_eq_some_iff.mp z
  refine ⟨q, e1, e2, ?_⟩
  rw [R.tbl.at_, List.getElem?_map, e1]
  rfl
theorem TSet.find (R : TSet P w s.heap a L es ep t ps) {x : Addr} {k : List Str} (hx : IsTx P w s.heap k x) (hu : A.units < cLine) {K : Nat} (hKf : K < 10 * SetTable.turns t.mask)
    (hK : way t.mask (hTx P w k) K ∉ ps.map (·.2)) (hKb : ∀ c, c < K → way t.mask (hTx P w k) c ∈ ps.map (·.2)) {Q : SetFound → Shared → Prop}
    (hin : k ∈ L.map (·.2) → Q (.there none) s) (hout : k ∉ L.map (·.2) → Q (.free (way t.mask (hTx P w k) K) false) s) :
    ∀ (f c : Nat) (st : Option SetTable.Probe), st.getD (t.probeStart (hTx P w k)) = pr t.mask (hTx P w k) c → c ≤ K → K - c < f →
      (∀ (d i : Nat) (p : TRow), d < c → t.place.toList[i]? = some (way t.mask (hTx P w k) d) → L[i]? = some p → p.2 ≠ k) →
      wpAny (model P w) A (setSearchFrom a (.ref x) (hTx P w k) true f st) Q E s
  | 0, _, _, _, _, lf, _ => nomatch lf
  | f + 1, c, st, est, lc, lf, past => by
    obtain ⟨o, ho, hex, hd⟩ := R.ob
    have state : ∀ {Z : Array (Int × Value) × Nat × SetTable → Shared → Prop}, Z (es, ep, t) s → wpAny (model P w) A (setState a) Z E s := fun z => wpAny_setState_of ho hd R.fits z
    have ris := R.tbl.ris
    have at_ : ∀ q, (nth t.mask (pr t.mask (hTx P w k) c) q).j = way t.mask (hTx P w k) (c + q) := fun q => congrArg SetTable.Probe.j (pr_add _ _ c q)
    have hs : ∀ (i : Nat) (p : TRow), L[i]? = some p → (es[i]?.map (·.1)).getD 0 = hTx P w p.2 := fun i p e => by rw [R.entry e]; rfl
    rw [setSearchFrom_succ]
    refine wpAny_bind (state (wp_if_neg ?_ ?_))
    · unfold SetTable.gaveWay
      rw [R.tbl.msk.odd]
      decide
    try refine wpAny_bind (wpAny_pure ?_)
    rcases go_spec t ris R.tbl.nodm (fun i => (es[i]?.map (·.1)).getD 0) (hTx P w k) (10 * SetTable.turns t.mask) (K - c) (pr t.mask (hTx P w k) c) (pr_dm _ _ c) (by omega)
      (fun q lq => by rw [at_, R.tbl.at_]; exact hKb _ (by omega)) (by rw [at_, R.tbl.at_, show c + (K - c) = K by omega]; exact hK) with ⟨q, i, lq, hi, hh, no, met⟩ | ⟨no, met⟩
    · -- one with this hash
      rw [at_] at hi
      have met2 : t.probe (fun i => (es[i]?.map (·.1)).getD 0) (hTx P w k) (st.getD (t.probeStart (hTx P w k))) = some (.candidate (way t.mask (hTx P w k) (c + q)) i (pr t.mask (hTx P w k) (c + (q + 1)))) := by
        rw [est, ← at_ q, ← pr_add]
        exact met
      rw [met2]
      obtain ⟨p, hp⟩ := R.row hi
      have mem : p ∈ L := List.mem_of_getElem? hp
      have live : t.slot (way t.mask (hTx P w k) (c + q)) = .live i := slot_live ris hi
      have on : wpAny (model P w) A (searchRest a (.ref x) (hTx P w k) true f es t (way t.mask (hTx P w k) (c + q)) i (pr t.mask (hTx P w k) (c + (q + 1)))) Q E s := by
        unfold searchRest
        rw [R.entry hp]
        refine wpAny_bind (wpAny_holding (wpAny_eqBool_tuple hu (R.tup p mem) hx (wpAny_bind (state ?_))))
        by_cases same : p.2 = k
        · exact wp_if_pos (by simp [same]) (wpAny_pure (hin (List.mem_map.mpr ⟨p, mem, same⟩)))
        · refine wp_if_neg (by simp [same]) ?_
          try refine wpAny_bind (wpAny_pure ?_)
          rw [sameMem]
          simp only [if_true, live, R.entry hp]
          refine wpAny_bind (wpAny_isSame_ref_self (wpAny_bind (wpAny_pure ?_)))
          simp only [if_true]
          refine wp_if_neg (by simp [same]) (TSet.find R hx hu hKf hK hKb hin hout f (c + (q + 1)) _ rfl (by omega) (by omega) fun d i2 p2 ld hi2 hp2 e2 => ?_)
          by_cases l1 : d < c
          · exact past d i2 p2 l1 hi2 hp2 e2
          · by_cases l2 : d = c + q
            · subst l2
              have z := slot_live ris hi2
              rw [live] at z
              cases z
              rw [hp] at hp2
              cases hp2
              exact same e2
            · exact no (d - c) i2 (by omega) (by rw [at_, show c + (d - c) = d by omega]; exact hi2) (by rw [hs i2 p2 hp2, e2])
      by_cases ld : t.led = true
      · refine wp_if_neg (by simp [ld]) ?_
        try refine wpAny_bind (wpAny_pure ?_)
        exact on
      · refine wp_if_pos (by simp [ld]) (wpAny_bind (tx_unseen hx (fun y hy => ?_) (wp_if_neg Bool.false_ne_true ?_)))
        · obtain ⟨e, he, rfl⟩ := List.mem_map.mp hy
          have he2 : e ∈ es.toList := by
            have z : e ∈ es ∧ e.1 = hTx P w k := by simpa using he
            simpa using z.1
          rw [R.rows] at he2
          obtain ⟨p2, hp2, rfl⟩ := List.mem_map.mp he2
          exact ⟨p2.2, p2.1, rfl, R.tup p2 hp2⟩
        · try refine wpAny_bind (wpAny_pure ?_)
          exact on
    · -- none
      have met2 : t.probe (fun i => (es[i]?.map (·.1)).getD 0) (hTx P w k) (st.getD (t.probeStart (hTx P w k))) = some (.empty (way t.mask (hTx P w k) K) none) := by
        rw [est]
        refine Eq.trans met ?_
        rw [at_, show c + (K - c) = K by omega]
      rw [met2]
      refine wpAny_pure (hout fun z => ?_)
      obtain ⟨p, hp, e⟩ := List.mem_map.mp z
      obtain ⟨i, li, ei⟩ := List.getElem_of_mem hp
      have hi : L[i]? = some p := by rw [List.getElem?_eq_getElem li, ei]
      obtain ⟨q, q1, q2, q3⟩ := R.slot hi
      rw [e] at q2
      obtain ⟨d, ld, ed⟩ := R.tbl.ahead (List.mem_of_getElem? q1) (K := K) (by rw [q2]; exact hK)
      rw [q2] at ed
      rw [← ed] at q3
      by_cases l1 : d < c
      · exact past d i p l1 q3 hi e
      · exact no (d - c) i (by omega) (by rw [at_, show c + (d - c) = d by omega]; exact q3) (by rw [hs i p hi, e])
end
end Cr
namespace Cr
open PySem PySem.Spec PyProof.Rows L2
theorem fm_get {α : Type} (d : α) (L : List α) : ∀ (o : List Nat), (∀ i ∈ o, i < L.length) → o.filterMap (fun i => L[i]?) = o.map fun i => L.getD i d
  | [], _ => rfl
  | i :: o, h => by
    have li := h i List.mem_cons_self
    rw [List.filterMap_cons_some (List.getElem?_eq_getElem li), fm_get d L o fun j hj => h j (List.mem_cons_of_mem _ hj), List.map_cons]
    congr 1
    rw [List.getD_eq_getElem?_getD, List.getElem?_eq_getElem li]
    rfl
theorem range_get {α : Type} (d : α) (L : List α) : (List.range L.length).map (fun i => L.getD i d) = L := by
  refine List.ext_getElem (by rw [List.length_map, List.length_range]) fun i h1 h2 => ?_
  rw [List.getElem_map, List.getElem_range, List.getD_eq_getElem?_getD, List.getElem?_eq_getElem h2]
  rfl
theorem getD_mapped {α β : Type} (f : α → β) (d : α) (e : β) (L : List α) {i : Nat} (h : i < L.length) : (L.map f).getD i e = f (L.getD i d) := by
  rw [List.getD_eq_getElem?_getD, List.getD_eq_getElem?_getD, List.getElem?_map, List.getElem?_eq_getElem h]
  rfl
section
variable {P : Program} {w : World} {A : Around} {E : Value → Shared → Prop} {s : Shared} {a : Addr} {L : List TRow} {es : Array (Int × Value)} {ep : Nat} {t : SetTable} {ps : List (Int × Nat)}
theorem tx_other {h h' : Heap} {k : List Str} {a b : Addr} {o : Obj} {es : Array (Int × Value)} {ep : Nat} {t : SetTable} (hb : IsTx P w h k b) (ho : h.get? a = some o) (hd : o.data = .set es ep t) (sb : Heap.SameBut a h h') : IsTx P w h' k b := by
  obtain ⟨u, items, n, hu, hc, hud, hi⟩ := hb
  refine ⟨u, items, n, (sb.2 b fun e => ?_).trans hu, hc, hud, hi⟩
  rw [e, ho] at hu
  cases hu
  rw [hd] at hud
  cases hud
/-- the set, where its table may be full -/
structure TFull (P : Program) (w : World) (h : Heap) (a : Addr) (L : List TRow) (es : Array (Int × Value)) (ep : Nat) (t : SetTable) (ps : List (Int × Nat)) : Prop where
  ob : ∃ o, h.get? a = some o ∧ o.ExactSet ∧ o.data = .set es ep t
  rows : es.toList = L.map (rowV P w)
  tbl : Tbl t ps
  hash : ps.map (·.1) = L.map fun p => hTx P w p.2
  once : (L.map (·.2)).Nodup
  tup : ∀ p ∈ L, IsTx P w h p.2 p.1
  led : w.params.followText "set-order" = true ∨ t.led = true
  room : L.length ≤ t.mask
theorem TFull.len {h : Heap} (R : TFull P w h a L es ep t ps) : ps.length = L.length ∧ es.size = L.length := by
  have z1 := congrArg List.length R.hash
  have z2 := congrArg List.length R.rows
  rw [List.length_map, List.length_map] at z1
  rw [List.length_map, Array.length_toList] at z2
  exact ⟨z1, z2⟩
theorem TFull.relay (R : TFull P w s.heap a L es ep t ps) {wanted M : Nat} (hw : SetTable.sizeAbove wanted - 1 = M) (hM : Msk M) (hn : L.length * 5 < M * 3) {Q : Unit → Shared → Prop}
    (hQ : ∀ h' L' es' ep' t' ps', Heap.SameBut a s.heap h' → TSet P w h' a L' es' ep' t' ps' → L'.Perm L → Q () { s with heap := h' }) : wpAny (model P w) A (setRelay a wanted) Q E s := by
  obtain ⟨o, ho, hex, hd⟩ := R.ob
  obtain ⟨l1, l2⟩ := R.len
  have lm := hM.le
  have fit : t.fits es.size = true := by
    rw [l2, ← l1]
    exact R.tbl.fits (by have := R.room; omega)
  obtain ⟨t', js, er, pm, T, em, el⟩ := lay_anew t (hs := es.map (·.1)) hw hM (by rw [Array.size_map]; omega)
  rw [Array.size_map, l2] at pm
  have low : ∀ i ∈ js.map (·.2), i < L.length := fun i hi => List.mem_range.mp (pm.mem_iff.mp hi)
  generalize hL : (js.map (·.2)).map (fun i => L.getD i ((0, []) : TRow)) = L'
  have pL : L'.Perm L := by
    have z := pm.map fun i => L.getD i ((0, []) : TRow)
    rwa [range_get, hL] at z
  have new : ((js.map (·.2)).toArray.filterMap (es[·]?)).toList = L'.map (rowV P w) := by
    rw [Array.toList_filterMap]
    show (js.map (·.2)).filterMap (fun i => es[i]?) = _
    rw [show (fun i => es[i]?) = fun i => es.toList[i]? from funext fun i => Array.getElem?_toList.symm, fm_get (rowV P w (0, [])) es.toList _ (fun i hi => by rw [Array.length_toList, l2]; exact low i hi), ← hL]
    refine Eq.trans (List.map_congr_left fun i hi => ?_) (List.map_map ..).symm
    rw [R.rows]
    exact getD_mapped (rowV P w) (0, []) _ L (low i hi)
  have size : ((js.map (·.2)).toArray.filterMap (es[·]?)).size = es.size := by
    rw [← Array.length_toList, new, List.length_map, pL.length_eq, l2]
  have keys : (js.map fun q => ((es.map (·.1)).toList.getD q.2 0, q.1)).map (·.1) = L'.map fun p => hTx P w p.2 := by
    rw [← hL, List.map_map, List.map_map, List.map_map]
    refine List.map_congr_left fun q hq => ?_
    have li := low q.2 (List.mem_map_of_mem hq)
    show (es.map (·.1)).toList.getD q.2 0 = hTx P w (L.getD q.2 (0, [])).2
    rw [Array.toList_map, R.rows, List.map_map]
    exact getD_mapped (fun p => (rowV P w p).1) (0, []) 0 L li
  rw [setRelay_eq]
  refine wpAny_bind (wpAny_setState_of ho hd fit (wp_if_neg (by rw [sizeLine_eq]; omega) ?_))
  try refine wpAny_bind (wpAny_pure ?_)
  rw [er]
  refine wpAny_bind (wp_if_neg (by rw [size]; simp) ?_)
  try refine wpAny_bind (wpAny_pure ?_)
  refine wpAny_pure (wpAny_storeSet_of ho hd ?_ (by rw [size, l2, sizeLine_eq]; omega))
  have sb := Heap.SameBut.update s.heap a (Obj.putSet ((js.map (·.2)).toArray.filterMap (es[·]?)) t')
  refine hQ _ L' _ (ep + 1) t' _ sb ⟨⟨_, store_at ho hd, hex, rfl⟩, new, T, keys, (pL.map (·.2)).nodup_iff.mpr R.once, fun p hp => tx_other (R.tup p (pL.mem_iff.mp hp)) ho hd sb, el.symm ▸ R.led, by rw [pL.length_eq, em]; exact hn⟩ pL
/-- one is added -/
theorem TSet.add (R : TSet P w s.heap a L es ep t ps) {x : Addr} {k : List Str} (hx : IsTx P w s.heap k x) (hu : A.units < cLine) (few : L.length < 300) {Q : Bool → Shared → Prop}
    (hQ : ∀ b h' L' es' ep' t' ps', Heap.SameBut a s.heap h' → TSet P w h' a L' es' ep' t' ps' → ((k ∈ L.map (·.2) ∧ L' = L) ∨ L'.Perm ((x, k) :: L)) → Q b { s with heap := h' }) :
    wpAny (model P w) A (setAddHashed a (.ref x) (hTx P w k)) Q E s := by
  obtain ⟨o, ho, hex, hd⟩ := R.ob
  obtain ⟨l1, l2⟩ := R.len
  have rm := R.room
  have lm := R.tbl.msk.le
  obtain ⟨K, lK, hK, hb⟩ := R.tbl.free (by omega) (hTx P w k)
  unfold setAddHashed
  rw [setAddHashedIn_succ a (.ref x) (hTx P w k) 99999]
  refine wpAny_holding (wpAny_bind (wpAny_setState_of ho hd R.fits (wp_if_neg (by simp [byScan, Value.scannable]) ?_)))
  try refine wpAny_bind (wpAny_pure ?_)
  unfold setSearch
  have lim : 10 * SetTable.turns t.mask < 100000 := by
    unfold SetTable.turns
    omega
  refine wpAny_bind (R.find hx hu lK hK hb (fun hm => ?_) (fun hm => ?_) 100000 0 none rfl (Nat.zero_le K) (by omega) fun d i p z => absurd z (Nat.not_lt_zero d))
  · exact wpAny_pure (hQ false s.heap L es ep t ps (Heap.SameBut.refl a s.heap) R (.inl ⟨hm, rfl⟩))
  · refine wpAny_bind (wpAny_setState_of ho hd R.fits ?_)
    obtain ⟨q1, q2, q3, q4⟩ := R.tbl.more hK hb
    dsimp only
    generalize t.put (way t.mask (hTx P w k) K) = Z at q1 q2 q3 q4 ⊢
    obtain ⟨t1, b⟩ := Z
    dsimp only at q1 q2 q3 q4 ⊢
    subst q1
    generalize SetTable.below t.place (way t.mask (hTx P w k) K) = b at q2 ⊢
    have pm := ins_perm L b ((x, k) : TRow)
    have rows1 : (SetTable.insertAt es b (hTx P w k, Value.ref x)).toList = (ins L b (x, k)).map (rowV P w) := by
      rw [SetTable.toList_insertAt, map_ins, R.rows]
      rfl
    have hash1 : (ins ps b (hTx P w k, way t.mask (hTx P w k) K)).map (·.1) = (ins L b ((x, k) : TRow)).map fun p => hTx P w p.2 := by
      rw [map_ins, map_ins, R.hash]
    have once1 : ((ins L b ((x, k) : TRow)).map (·.2)).Nodup := (pm.map (·.2)).nodup_iff.mpr (List.nodup_cons.mpr ⟨hm, R.once⟩)
    have len1 : (ins L b ((x, k) : TRow)).length = L.length + 1 := pm.length_eq
    generalize ins L b ((x, k) : TRow) = L1 at pm rows1 hash1 once1 len1
    generalize ins ps b (hTx P w k, way t.mask (hTx P w k) K) = ps1 at q2 hash1
    generalize SetTable.insertAt es b (hTx P w k, Value.ref x) = es1 at rows1
    have size1 : es1.size = L.length + 1 := by
      rw [← Array.length_toList, rows1, List.length_map, len1]
    have go : ∀ t2 : SetTable, Tbl t2 ps1 → t2.mask = t.mask → t2.led = t.led → wpAny (model P w) A (do
        storeSet a es1 t2
        if !false && t2.tooFull then setRelay a (SetTable.grown (es.size + 1))
        return true) Q E s := fun t2 T2 m2 e2 => by
      have sb := Heap.SameBut.update s.heap a (Obj.putSet es1 t2)
      have ob := store_at (es' := es1) (t' := t2) ho hd
      refine wpAny_bind (wpAny_storeSet_of ho hd ?_ (by rw [size1, sizeLine_eq]; omega))
      generalize s.heap.update a (Obj.putSet es1 t2) = h1 at sb ob ⊢
      have tup1 : ∀ p ∈ L1, IsTx P w h1 p.2 p.1 := fun p hp => by
        rcases List.mem_cons.mp (pm.mem_iff.mp hp) with rfl | hp
        · exact tx_other hx ho hd sb
        · exact tx_other (R.tup p hp) ho hd sb
      have full : t2.tooFull = decide ((L.length + 1) * 5 ≥ t.mask * 3) := by
        unfold SetTable.tooFull SetTable.fill
        rw [T2.nodm, T2.size, m2]
        have z := congrArg List.length hash1
        rw [List.length_map, List.length_map, len1] at z
        rw [z]
        rfl
      by_cases c : (L.length + 1) * 5 ≥ t.mask * 3
      · have R1 : TFull P w h1 a L1 es1 (ep + 1) t2 ps1 := ⟨⟨_, ob, hex, rfl⟩, rows1, T2, hash1, once1, tup1, e2.symm ▸ R.led, by rw [len1, m2]; rcases R.tbl.msk with e | e | e | e <;> rw [e] at rm ⊢ <;> omega⟩
        have grow : ∀ M, SetTable.sizeAbove (SetTable.grown (es.size + 1)) - 1 = M → Msk M → (L.length + 1) * 5 < M * 3 → wpAny (model P w) A (setRelay a (SetTable.grown (es.size + 1))) (fun _ s' => wpAny (model P w) A (pure true) Q E s') E { s with heap := h1 } := fun M g1 g2 g3 =>
          TFull.relay (s := { s with heap := h1 }) R1 g1 g2 (by rw [len1]; exact g3) fun h2 L2 es2 ep2 t3 ps2 sb2 R2 pm2 => wpAny_pure (hQ true h2 L2 es2 ep2 t3 ps2 (sb.trans sb2) R2 (.inr (pm2.trans pm)))
        have step : wpAny (model P w) A (setRelay a (SetTable.grown (es.size + 1))) (fun _ s' => wpAny (model P w) A (pure true) Q E s') E { s with heap := h1 } := by
          rcases R.tbl.msk with e | e | e | e
          · rw [e] at c rm
            have l4 : es.size + 1 = 5 := by omega
            exact grow 31 (by rw [l4]; exact grown5) (.inr (.inl rfl)) (by omega)
          · rw [e] at c rm
            have l4 : es.size + 1 = 19 := by omega
            exact grow 127 (by rw [l4]; exact grown19) (.inr (.inr (.inl rfl))) (by omega)
          · rw [e] at c rm
            have l4 : es.size + 1 = 77 := by omega
            exact grow 511 (by rw [l4]; exact grown77) (.inr (.inr (.inr rfl))) (by omega)
          · rw [e] at c
            omega
        have on : (!false && t2.tooFull) = true := by rw [full, decide_eq_true c]; rfl
        first
          | exact wp_if_pos on (wpAny_bind step)
          | exact wpAny_bind (wp_if_pos on step)
      · have on : ¬ (!false && t2.tooFull) = true := by rw [full, decide_eq_false c]; decide
        have end_ : wpAny (model P w) A (pure true) Q E { s with heap := h1 } := wpAny_pure (hQ true h1 L1 es1 (ep + 1) t2 ps1 sb ⟨⟨_, ob, hex, rfl⟩, rows1, T2, hash1, once1, tup1, e2.symm ▸ R.led, by rw [len1, m2]; omega⟩ (.inr pm))
        first
          | exact wp_if_neg on end_
          | exact wpAny_bind (wp_if_neg on (wpAny_pure end_))
    have both : ∀ z : Bool, wpAny (model P w) A (do
        let t2 : SetTable := if z then t1 else { t1 with plain := false }
        storeSet a es1 t2
        if !false && t2.tooFull then setRelay a (SetTable.grown (es.size + 1))
        return true) Q E s := fun z => by
      cases z
      · exact go { t1 with plain := false } ⟨q2.at_, q2.up, q2.nodm, q2.msk, q2.low, q2.goes⟩ q3 q4
      · exact go t1 q2 q3 q4
    by_cases pl : t1.plain = true
    · first
        | exact wp_if_pos pl (wpAny_bind (tx_byValue hx both))
        | exact wpAny_bind (wp_if_pos pl (tx_byValue hx both))
    · first
        | exact wp_if_neg pl (wpAny_bind (wpAny_pure (both true)))
        | exact wpAny_bind (wp_if_neg pl (wpAny_pure (both true)))
        | exact wp_if_neg pl (both true)
end
end Cr
/-! set(xs) of a list of tuples of texts -/
namespace Cr
open PySem PySem.Spec PyProof.Rows L2
/-- what the first i items gave -/
structure Gath (ks : List TRow) (i : Nat) (L : List TRow) : Prop where
  of : ∀ p ∈ L, p ∈ ks.take i
  has : ∀ p ∈ ks.take i, p.2 ∈ L.map (·.2)
  few : L.length ≤ i
theorem Gath.step {ks L L' : List TRow} {i : Nat} {q : TRow} (g : Gath ks i L) (e : ks[i]? = some q) (h : (q.2 ∈ L.map (·.2) ∧ L' = L) ∨ L'.Perm (q :: L)) : Gath ks (i + 1) L' := by
  have nx : ks.take (i + 1) = ks.take i ++ [q] := by rw [List.take_add_one, e]; rfl
  rcases h with ⟨m, rfl⟩ | pm
  · refine ⟨fun p hp => ?_, fun p hp => ?_, Nat.le_succ_of_le g.few⟩
    · rw [nx]
      exact List.mem_append_left _ (g.of p hp)
    · rw [nx, List.mem_append, List.mem_singleton] at hp
      rcases hp with hp | rfl
      · exact g.has p hp
      · exact m
  · refine ⟨fun p hp => ?_, fun p hp => ?_, by rw [pm.length_eq]; exact Nat.succ_le_succ g.few⟩
    · rw [nx, List.mem_append, List.mem_singleton]
      rcases List.mem_cons.mp (pm.mem_iff.mp hp) with rfl | hp
      · exact .inr rfl
      · exact .inl (g.of p hp)
    · rw [(pm.map (·.2)).mem_iff, List.map_cons, List.mem_cons]
      rw [nx, List.mem_append, List.mem_singleton] at hp
      rcases hp with hp | rfl
      · exact .inr (g.has p hp)
      · exact .inl rfl
abbrev freshT (w : World) : SetTable := .fresh 0 0 (!w.params.followText "set-order")
abbrev freshO (w : World) : Obj := { cls := .type "set", dict := none, data := .set #[] 0 (freshT w) }
section
variable {P : Program} {w : World} {A : Around} {E : Value → Shared → Prop} {s : Shared}
theorem TSet.none {h : Heap} {a : Addr} (ho : h.get? a = some (freshO w)) : TSet P w h a [] #[] 0 (freshT w) [] where
  ob := ⟨_, ho, ⟨rfl, rfl, rfl⟩, rfl⟩
  rows := rfl
  tbl := ⟨rfl, .nil, rfl, .inl rfl, (fun _ z => nomatch z), (fun _ z => nomatch z)⟩
  hash := rfl
  once := .nil
  tup := fun _ z => nomatch z
  led := by
    cases z : w.params.followText "set-order"
    · refine .inr ?_
      show (!w.params.followText "set-order") = true
      rw [z]
      rfl
    · exact .inl rfl
  room := by
    show 0 * 5 < 7 * 3
    decide
end
end Cr
namespace Cr
open PySem PySem.Spec PyProof.Rows L2
section
variable {P : Program} {w : World} {A : Around} {E : Value → Shared → Prop} {s : Shared}
abbrev iterO (l : Addr) : Obj := { cls := .type "list_iterator", data := .fields #[.ref l, .int 0 0] }
/-- set(xs): a new set, an iterator, and the loop over it -/
theorem set_from {l : Addr} {items : Array Value} {Z : Shared → Prop} {Q : Value → Shared → Prop} (hl : s.heap.IsList l items)
    (loop : codeAny (model P w) A.in1.in1 (.builtin "set.update.loop" ⟨[.ref s.heap.objs.size, .ref (s.heap.push (freshO w)).objs.size], []⟩) (fun r s' => r = .ok (.ret .none) ∧ Z s') { s with heap := (s.heap.push (freshO w)).push (iterO l) })
    (h : ∀ s', Z s' → Q (.ref s.heap.objs.size) s') : wpAny (model P w) A (call (.type "set") [.ref l]) Q E s := by
  have cs := F.called_set
  obtain ⟨c, tl, mro⟩ := cs.mro
  have made := cs.made
  have sub := cs.sub
  have notT := cs.notType
  have canC := cs.canCreate
  have tc := F.typeCall_set_1 (.ref l)
  refine wpAny_call (codeAny_of_tree ?_)
  show wpAny _ _ (callAny (.type "set") _) _ _ _
  refine wpAny_pure ⟨Code.quiet_builtin _ (by decide +kernel), codeAny_builtin F.entry_type_call ?_⟩
  rw [Around.under_plain (weight_type_call_type "set" [.ref l] []) rfl]
  repeat any_goals first | assumption | wp_step
  refine codeAny_mono (code_set_led1 (.ref l) (E := E) (Q₁ := fun u s1 => u = .ref s.heap.objs.size ∧ s1 = { s with heap := s.heap.push (freshO w) }) ⟨rfl, rfl⟩) fun r s1 hr => ?_
  rcases r with e | fl
  case error => exact hr
  cases fl
  case ret u =>
    obtain ⟨rfl, rfl⟩ := hr
    have at1 : (s.heap.push (freshO w)).get? s.heap.objs.size = some (freshO w) := Heap.get?_push_size _ rfl
    have ty : Shared.TypeIs { s with heap := s.heap.push (freshO w) } (.ref s.heap.objs.size) "set" := ⟨_, at1, rfl⟩
    have lk := F.called_set.init.lookup
    have bd := F.called_set.init.bind (.ref s.heap.objs.size)
    repeat any_goals first | assumption | wp_step
    refine codeAny_mono (codeAny_call_builtin (R := wants (fun r s2 => r = .none ∧ Z s2) E) F.called_set.init.plain F.entry_set_init (check_set_init_1 ty ?_)) fun r s2 hr => ?_
    · obtain ⟨⟨ocls, odict, odata, oslots⟩, hol, rfl, nl, rfl⟩ := hl
      have hol1 : (s.heap.push (freshO w)).get? l = some { cls := .type "list", dict := odict, data := .seq items nl, slots := oslots } := Heap.get?_push_of_some _ hol
      have n1 := F.sub_list_set
      have n2 := F.sub_list_frozenset
      have n3 : (Value.type "list" == Value.type "dict") = false := by decide
      have hl1 : (s.heap.push (freshO w)).IsList l items := ⟨_, hol1, rfl, nl, rfl⟩
      unfold Builtin.«set.__init__» noKeywords Builtin.Frozenset.updateFrom
      generalize hPI : pyIter = PI
      wp_walk
      subst hPI
      refine wpAny_pyIter_list hl1 (wpAny_bind (wpAny_runValue (codeAny_mono loop fun r s2 hr => ?_)))
      obtain ⟨rfl, z⟩ := hr
      show wpAny _ _ _ _ _ _
      refine wpAny_pure ?_
      show wpAny _ _ (ret Value.none) _ _ _
      exact wpAny_pure ⟨rfl, z⟩
    · rcases r with e | fl
      case error => exact hr
      cases fl
      case ret u =>
        obtain ⟨rfl, z⟩ := hr
        repeat any_goals first | assumption | wp_step
        exact h _ z
      all_goals exact hr.elim
  all_goals exact hr.elim
theorem none_above {h : Heap} {b : Addr} (lb : h.objs.size ≤ b) : h.get? b = none := by
  cases z : h.get? b with
  | none => rfl
  | some o => exact absurd (Heap.lt_size z) (Nat.not_lt.mpr lb)
end
end Cr
/-! sets of texts: made, added to, sorted -/
namespace Cr
open PySem PySem.Spec PyProof.Rows L2 Evl
def txtOf (e : Int × Value) : Str := match e.2 with | .str k _ => k | _ => ""
abbrev txts (es : Array (Int × Value)) : List Str := es.toList.map txtOf
abbrev hsh (P : Program) (w : World) (k : Str) : Int := (PySem.strKind P w).hash k
def TxtE (P : Program) (w : World) (e : Int × Value) : Prop := ∃ k tk, e = (hsh P w k, Value.str k tk)
/-- the set at a: its members are those of l -/
structure TxtIn (P : Program) (w : World) (l : List Str) (es : Array (Int × Value)) (t : SetTable) : Prop where
  good : ∀ e ∈ es.toList, TxtE P w e
  once : (txts es).Nodup
  mem : ∀ k, k ∈ l ↔ k ∈ txts es
  few : es.size ≤ l.length
  fit : t.fits es.size = true
  ris : Ris t.place.toList
  led : w.params.followText "set-order" = true ∨ t.led = true
def TxtSet (P : Program) (w : World) (h : Heap) (a : Addr) (l : List Str) : Prop := ∃ o es ep t, h.get? a = some o ∧ o.ExactSet ∧ o.data = .set es ep t ∧ TxtIn P w l es t
section
variable {P : Program} {w : World} {A : Around} {E : Value → Shared → Prop} {s : Shared} {a : Addr} {l : List Str}
theorem txt_is {e : Int × Value} (g : TxtE P w e) (k : Str) : (PySem.strKind P w).is k e.2 = true ↔ txtOf e = k := by
  obtain ⟨k0, tk, rfl⟩ := g
  show (PySem.strKind P w).is k (.str k0 tk) = true ↔ k0 = k
  simp [PySem.strKind, Value.isStrOf]
theorem txt_elems {es : List (Int × Value)} (g : ∀ e ∈ es, TxtE P w e) : ElemsOf (PySem.strKind P w) es := fun e he => by
  obtain ⟨k, tk, rfl⟩ := g e he
  exact ⟨⟨k, strKind_is P w k tk, rfl⟩, rfl⟩
theorem TxtIn.perm {es es' : Array (Int × Value)} {t t' : SetTable} (T : TxtIn P w l es t) (pm : es'.toList.Perm es.toList) (hf : t'.fits es'.size = true) (hr : Ris t'.place.toList) (hl : t'.led = t.led) : TxtIn P w l es' t' where
  good := fun e he => T.good e (pm.mem_iff.mp he)
  once := (pm.map txtOf).nodup_iff.mpr T.once
  mem := fun k => (T.mem k).trans (pm.map txtOf).mem_iff.symm
  few := by
    have z := pm.length_eq
    rw [Array.length_toList, Array.length_toList] at z
    rw [z]
    exact T.few
  fit := hf
  ris := hr
  led := T.led.imp id fun z => hl.trans z
/-- laid down, and once more where the table is full -/
theorem txt_tail {g : Bool → Sem Unit} (hg : ∀ (b : Bool) (s₁ : Shared) (Q' : Unit → Shared → Prop), Q' () s₁ → wpAny (model P w) A (g b) Q' E s₁) {o : Obj} {es es1 : Array (Int × Value)} {ep : Nat} {t t1 : SetTable}
    (ho : s.heap.get? a = some o) (hx : o.ExactSet) (hd : o.data = .set es ep t) (T : TxtIn P w l es1 t1) (hb : es1.size < scanBound) {wd : Bool} {R : Option Bool → Shared → Prop} (hR : ∀ h', Heap.SameBut a s.heap h' → TxtSet P w h' a l → R (some true) { s with heap := h' }) :
    wpAny (model P w) A (do
        storeSet a es1 t1
        if (!wd && t1.tooFull) = true then do
            g (relayAll t1 es1 (SetTable.grown es1.size)).2.2
            storeSet a (relayAll t1 es1 (SetTable.grown es1.size)).1 (relayAll t1 es1 (SetTable.grown es1.size)).2.1
            pure (some true)
          else pure (some true)) R E s := by
  have o1 := L2.store_at (es' := es1) (t' := t1) ho hd
  have b1 := Heap.SameBut.update s.heap a (Obj.putSet es1 t1)
  refine wpAny_bind (wpAny_storeSet_of ho hd ?_ (fits_of_scanBound hb))
  split
  case isFalse => exact wpAny_pure (hR _ b1 ⟨_, es1, _, t1, o1, hx, rfl, T⟩)
  case isTrue =>
    have q1 := relayAll_perm t1 es1 (SetTable.grown es1.size)
    have q2 := relayAll_fits t1 es1 (SetTable.grown es1.size)
    have q3 := relayAll_ris t1 es1 (SetTable.grown es1.size)
    have q4 := relayAll_led t1 es1 (SetTable.grown es1.size)
    generalize relayAll t1 es1 (SetTable.grown es1.size) = Z at q1 q2 q3 q4 ⊢
    obtain ⟨es2, t2, gave⟩ := Z
    dsimp only at q1 q2 q3 q4 ⊢
    have sz : es2.size = es1.size := by
      have z := q1.length_eq
      rwa [Array.length_toList, Array.length_toList] at z
    refine wpAny_bind (hg _ _ _ (wpAny_bind (wpAny_storeSet_of o1 rfl ?_ (fits_of_scanBound (sz ▸ hb)))))
    exact wpAny_pure (hR _ (b1.trans (Heap.SameBut.update _ a _)) ⟨_, es2, _, t2, L2.store_at (es' := es2) (t' := t2) o1 rfl, hx, rfl, T.perm q1 q2 q3 q4⟩)
theorem txt_hashed {k : Str} {tk : Tok} {Q : Bool → Shared → Prop} (R : TxtSet P w s.heap a l) (room : l.length + 1 < scanBound) (hQ : ∀ b h', Heap.SameBut a s.heap h' → TxtSet P w h' a (k :: l) → Q b { s with heap := h' }) :
    wpAny (model P w) A (setAddHashed a (.str k tk) (hsh P w k)) Q E s := by
  obtain ⟨o, es, ep, t, ho, hx, hd, T⟩ := R
  have sc : (Value.str k tk).scannable = true := rfl
  have el := txt_elems T.good
  have fw := T.few
  unfold setAddHashed setAddHashedIn
  refine wpAny_holding (wpAny_bind (wpAny_setState_of ho hd T.fit ?_))
  dsimp only
  rw [byScan_of sc (by omega) el]
  simp only [↓reduceIte]
  unfold setAddByScan
  refine wpAny_bind (wpAny_bind (wpAny_rule (wpAny_bind (wpAny_setScan_of (strKind_is P w k tk) ho hd T.fit el ?_))))
  cases hf : List.findIdx? (fun e => (PySem.strKind P w).is k e.2) es.toList with
  | some j =>
    obtain ⟨hj, pj, _⟩ := List.findIdx?_eq_some_iff_getElem.mp hf
    have kin : k ∈ txts es := List.mem_map.mpr ⟨_, List.getElem_mem hj, (txt_is (T.good _ (List.getElem_mem hj)) k).mp pj⟩
    refine wpAny_pure (wpAny_pure (hQ _ s.heap (Heap.SameBut.refl a s.heap) ⟨o, es, ep, t, ho, hx, hd, { T with mem := fun x => ?_, few := Nat.le_succ_of_le T.few }⟩))
    rw [List.mem_cons, T.mem x]
    exact ⟨fun z => z.elim (fun e => e ▸ kin) id, .inr⟩
  | none =>
    have kout : k ∉ txts es := fun z => by
      obtain ⟨e, he, q⟩ := List.mem_map.mp z
      have c := List.findIdx?_eq_none_iff.mp hf e he
      rw [(txt_is (T.good e he) k).mpr q] at c
      cases c
    have gw : ∀ (b : Bool) {s₁ : Shared} {Q' : Unit → Shared → Prop}, Q' () s₁ → wpAny (model P w) A (match b with | true => rule "set.scan.the-table-gave-way" | false => pure ()) Q' E s₁ := fun b s₁ Q' q => by
      cases b
      · exact wpAny_pure q
      · exact wpAny_rule q
    dsimp only
    have q1 := layNew_perm t es (hsh P w k) (.str k tk)
    have q2 := layNew_fits t es (hsh P w k) (.str k tk)
    have q3 := layNew_ris t es (hsh P w k) (.str k tk) T.ris
    have q4 := layNew_led t es (hsh P w k) (.str k tk)
    generalize layNew t es (hsh P w k) (.str k tk) = Z at q1 q2 q3 q4 ⊢
    obtain ⟨es1, t1, wd, gave⟩ := Z
    dsimp only at q1 q2 q3 q4 ⊢
    rw [Array.toList_push] at q1
    have pc := q1.trans (List.perm_append_singleton _ _)
    have pk : (txts es1).Perm (k :: txts es) := pc.map txtOf
    have sz : es1.size = es.size + 1 := by
      have z := pc.length_eq
      rwa [Array.length_toList, List.length_cons, Array.length_toList] at z
    have T1 : ∀ {t2 : SetTable}, t2.fits es1.size = true → Ris t2.place.toList → t2.led = t1.led → TxtIn P w (k :: l) es1 t2 := fun f r ld =>
      { good := fun e he => by
          rcases List.mem_cons.mp (pc.mem_iff.mp he) with z | z
          · exact ⟨k, tk, z⟩
          · exact T.good e z
        once := pk.nodup_iff.mpr (List.nodup_cons.mpr ⟨kout, T.once⟩)
        mem := fun x => by rw [pk.mem_iff, List.mem_cons, List.mem_cons, T.mem x]
        few := by rw [sz, List.length_cons]; omega
        fit := f
        ris := r
        led := T.led.imp id fun z => ld.trans (q4.trans z) }
    have hb : es1.size < scanBound := by omega
    refine wpAny_bind (gw _ ?_)
    split
    · refine wpAny_bind ?_
      rw [hashByValue_scannable 8 sc]
      refine wpAny_pure ?_
      refine txt_tail (l := k :: l) ?_ ho hx hd (T1 ?_ ?_ ?_) hb ?_
      · intro b s₁ Q' q
        cases b <;> first | exact wpAny_pure q | exact wpAny_rule q
      · first | (split <;> first | exact q2 | exact SetTable.fits_plain_off q2) | exact q2
      · first | (split <;> exact q3) | exact q3
      · first | (split <;> rfl) | rfl
      · intro h' sb r
        exact wpAny_pure (hQ _ h' sb r)
    · refine wpAny_bind (wpAny_pure ?_)
      simp only [↓reduceIte]
      refine txt_tail (l := k :: l) ?_ ho hx hd (T1 q2 q3 rfl) hb ?_
      · intro b s₁ Q' q
        cases b <;> first | exact wpAny_pure q | exact wpAny_rule q
      · intro h' sb r
        exact wpAny_pure (hQ _ h' sb r)
end
end Cr
namespace Cr
open PySem PySem.Spec PyProof.Rows L2 Evl
section
variable {P : Program} {w : World} {A : Around} {E : Value → Shared → Prop} {s : Shared} {a : Addr} {l : List Str}
theorem txt_fresh {h : Heap} : TxtSet P w (h.push { cls := .type "set", dict := none, data := .set #[] 0 (.fresh 0 0 (!w.params.followText "set-order")) }) h.objs.size [] := by
  obtain ⟨o, es, ep, t, ho, hx, hd, _, _, _, _, hf, hn, hr, hl⟩ := L2.setR_fresh (h := h) w
  have e0 : es = #[] := by
    cases es with
    | mk l =>
      cases l with
      | nil => rfl
      | cons x r => cases hn
  subst e0
  exact ⟨o, #[], ep, t, ho, hx, hd, ⟨fun e he => absurd he (by simp), .nil, fun k => by simp [txts], Nat.le_refl _, hf, hr, hl⟩⟩
end
/-- the set of texts at a, tracked -/
def TxtO (P : Program) (w : World) (a : Addr) (l : List Str) : HO := .ext fun h => TxtSet P w h a l
theorem txtO_new {P : Program} {w : World} {H : Hp} {h : Heap} {a : Addr} {l : List Str} (R : TxtSet P w h a l) : ObjOk P w H h a (TxtO P w a l) := by
  have ⟨o, es, ep, t, ho, r⟩ := R
  refine ⟨R, ⟨o, ho⟩, fun h1 h2 z k => ?_⟩
  obtain ⟨o', es', ep', t', ho', r'⟩ := z
  exact ⟨o', es', ep', t', k o' ho', r'⟩
section
variable {X : Cx} {pins : List (Addr × Obj)} {σ : L2.St} {H : Hp} {s : Shared} {a : Addr} {l : List Str}
theorem txtO_get (I : Inv X pins σ H s) (ha : H a = some (TxtO X.prog X.w a l)) : TxtSet X.prog X.w s.heap a l := (I.hok a _ ha).1
end
end Cr
/-! the search by levels over rising targets: its paths rise, and each is the least one to its end -/
namespace Cr
open PySem
/-- lists of texts in order -/
def ltL : List Str → List Str → Prop
  | [], [] => False
  | [], _ :: _ => True
  | _ :: _, [] => False
  | x :: xs, y :: ys => ltS x y ∨ (x = y ∧ ltL xs ys)
/-- the shorter first, equally long ones in order -/
def sl (p q : List Str) : Prop := p.length < q.length ∨ (p.length = q.length ∧ ltL p q)
inductive IsPath (T : Str → List Str) (a : Str) : List Str → Prop
  | one : IsPath T a [a]
  | more {p : List Str} {t : Str} : IsPath T a p → t ∈ T (lastP p) → IsPath T a (p ++ [t])
section
variable {T : Str → List Str} {a : Str}
theorem IsPath.ne {p : List Str} (h : IsPath T a p) : p ≠ [] := by
  cases h with
  | one => exact List.cons_ne_nil _ _
  | more _ _ => exact List.append_ne_nil_of_right_ne_nil _ (List.cons_ne_nil _ _)
theorem IsPath.pos {p : List Str} (h : IsPath T a p) : 0 < p.length := List.length_pos_iff.mpr h.ne
end
end Cr
/-! expressions by the data that they give, further -/
namespace Cr
open PySem PySem.Spec PyProof.Rows L2 Evl
theorem evd_var {i : Nat} {σ : L2.St} {H : Hp} {v : V} {d : PyData} (h : σ[i]? = some (some v)) (hd : Dt H v d) : EvD (tVar i) σ H d := evd_of (ev_var h) hd
section
variable {K : PySem.W.Frag} {te ta tb : TE} {tA : TA} {σ : L2.St} {H : Hp} {d e : PyData} {ds : List PyData} {i j : Nat} {E : XK}
theorem evd_ofL {xs : List V} (h : EvL te σ H xs) (hd : ∀ H, DtAll H xs ds) : EvD te σ H (.list ds) := fun H1 e1 Q q => h H1 e1 _ fun p H2 z e2 hp => q (.ref p) H2 e2 (.lst hp (hd _))
theorem et_eqD (h1 : EvD ta σ H d) (h2 : EvD tb σ H e) (s1 : SeqAt.shaped d = true) (s2 : SeqAt.shaped e = true) : EvT (tTest (tOp rEqDt ta tb)) σ H (PyData.eqv d e) := fun H1 e1 Q q =>
  h1 H1 e1 _ fun v H2 e2 hv => h2 H2 (e1.trans e2) _ fun u H3 e3 hu => ⟨d, e, Dt.ex e3 hv, hu, s1, s2, _, rfl, q H3 (e2.trans e3)⟩
theorem ev_reprD (h : EvD te σ H d) (hf : Fits d) : Ev (tCB rRepr (tCons te tNil)) σ H (.str d.shown) := fun H1 e1 Q q => h H1 e1 _ fun v H2 e2 hv => ⟨v, d, rfl, hv, hf, q H2 e2⟩
end
/-! ### in a list of data -/
/-! ### a list of pairs made in a comprehension -/
theorem dt_str {H : Hp} {v : V} {x : Str} (h : Dt H v (.str x)) : v = .str x := by cases h; rfl
/-! ### a list that is new -/
def EvDF (te : TE) (σ : L2.St) (H : Hp) (d : PyData) : Prop := ∀ H1, Ex H H1 → ∀ Q : VK, (∀ p H2, H1 p = none → Ex H1 H2 → Dt H2 (.ref p) d → Q (.ref p) H2) → te σ H1 Q
theorem EvDF.d {te : TE} {σ : L2.St} {H : Hp} {d : PyData} (h : EvDF te σ H d) : EvD te σ H d := fun H1 e Q q => h H1 e Q fun p H2 _ e2 hd => q (.ref p) H2 e2 hd
/-! ### a list filtered in a comprehension -/
/-! ### lists and tuples stay -/
end Cr
/-! lists of names as data: their order, min, comprehensions that make them -/
/-! set(a list of texts); min of a list of texts -/
namespace Cr
open PySem PySem.Spec PyProof.Rows L2
section
variable {P : Program} {w : World} {A : Around} {E : Value → Shared → Prop} {s : Shared}
theorem txtSet_at {h h' : Heap} {S : Addr} {l : List Str} (T : TxtSet P w h S l) (k : ∀ o, h.get? S = some o → h'.get? S = some o) : TxtSet P w h' S l := by
  obtain ⟨o, es, ep, t, ho, r⟩ := T
  exact ⟨o, es, ep, t, k o ho, r⟩
theorem ts_loop {I : Addr} {fp wr : List Addr} {G : Array GenState → Array GenState → Prop} {n : Nat} {Pv : Nat → Value → Prop} {St : Nat → Shared → Prop} {R : Result → Shared → Prop}
    (W : WalksS P w A.in1 I fp wr G n Pv St) {S : Addr} (outS : S ∉ fp) {ks : List Str} (en : n = ks.length) (few : ks.length < 4000) (val : ∀ i v, Pv i v → ∃ (k : Str) (tk : Tok), ks[i]? = some k ∧ v = Value.str k tk)
    {h0 : Heap} (newS : h0.get? S = none) (newW : ∀ b ∈ wr, h0.get? b = none)
    (hR : ∀ s' L, s'.gens = s.gens ∧ s'.drawn = s.drawn ∧ s'.os = s.os → TxtSet P w s'.heap S L → L.length = n → (∀ k, k ∈ L ↔ k ∈ ks) → (∀ b o, h0.get? b = some o → s'.heap.get? b = some o) → R (.ok (.ret .none)) s')
    (gq : ∀ {x y : Array GenState}, G x y → y = x) :
    ∀ (k i : Nat) (s1 : Shared), i + k = n → St i s1 → (s1.gens = s.gens ∧ s1.drawn = s.drawn ∧ s1.os = s.os) → (∀ b o, h0.get? b = some o → s1.heap.get? b = some o) → (∃ L, TxtSet P w s1.heap S L ∧ L.length = i ∧ ∀ k, k ∈ L ↔ k ∈ ks.take i) →
      codeAny (model P w) A (.builtin "set.update.loop" ⟨[.ref S, .ref I], []⟩) R s1
  | 0, i, s1, ei, st, sm, kp, ⟨L, T, ll, mL⟩ => by
    refine codeAny_builtin F.entry_set_update_loop ?_
    rw [Around.under_plainId F.plain_set_update_loop _]
    have ein : i = n := ei
    subst ein
    show wpAny _ A.in1 (pyNext (.ref I) >>= _) _ _ s1
    refine wpAny_bind (W.done s1 _ _ st fun s2 mv => ?_)
    refine wpAny_pure (hR s2 L ⟨(gq mv.gens).trans sm.1, mv.drawn.trans sm.2.1, mv.os.trans sm.2.2⟩ (txtSet_at T fun o ho => mv.heap S o (fun z => outS (W.sub _ z)) ho) ll (fun k => ?_) fun b o e => mv.heap b o (fun z => by rw [newW b z] at e; cases e) (kp b o e))
    rw [mL, en, List.take_length]
  | k + 1, i, s1, ei, st, sm, kp, ⟨L, T, ll, mL⟩ => by
    refine codeAny_builtin F.entry_set_update_loop ?_
    rw [Around.under_plainId F.plain_set_update_loop _]
    show wpAny _ A.in1 (pyNext (.ref I) >>= _) _ _ s1
    refine wpAny_bind (W.item i s1 _ _ (by omega) st fun v s2 hv st2 mv => ?_)
    obtain ⟨q, tk, hq, rfl⟩ := val i v hv
    have kp2 : ∀ b o, h0.get? b = some o → s2.heap.get? b = some o := fun b o e => mv.heap b o (fun z => by rw [newW b z] at e; cases e) (kp b o e)
    have T2 : TxtSet P w s2.heap S L := txtSet_at T fun o ho => mv.heap S o (fun z => outS (W.sub _ z)) ho
    show wpAny _ A.in1 (holding [Value.str q tk] (setAdd S (.str q tk)) >>= _) _ _ s2
    unfold setAdd
    refine wpAny_bind (wpAny_holding (wpAny_holding (wpAny_bind ((PySem.strKind P w).pyHash (strKind_is P w q tk) ?_))))
    refine txt_hashed (s := { s2 with toks := s2.toks + 1 }) T2 (by show _ + 1 < 4096; omega) fun b h3 sb T3 => ?_
    refine wpAny_pure ⟨plainId_quiet F.plain_set_update_loop _, ts_loop W outS en few val newS newW hR gq k (i + 1) _ (by omega) (W.frame _ s2 _ _ st2 (Nat.le_add_right _ _) fun b hb o e => ?_) ⟨(gq mv.gens).trans sm.1, mv.drawn.trans sm.2.1, mv.os.trans sm.2.2⟩ (fun b o e => ?_) ⟨q :: L, T3, by rw [List.length_cons, ll], fun x => ?_⟩⟩
    · exact (sb.2 b fun z : b = S => outS (z ▸ hb)).trans e
    · exact (sb.2 b fun z : b = S => by rw [z, newS] at e; cases e).trans (kp2 b o e)
    · rw [List.take_add_one, hq, List.mem_append, List.mem_cons, mL]
      show _ ↔ _ ∨ x ∈ [q]
      rw [List.mem_singleton]
      exact or_comm
/-- set(xs) of texts -/
theorem ts_set {l : Addr} {items : Array Value} {ks : List Str} {Q : Value → Shared → Prop} (hh : A.handled = none) (hl : s.heap.IsList l items) (sz : items.size = ks.length) (hi : ∀ (i : Nat) (v : Value), items[i]? = some v → ∃ (k : Str) (tk : Tok), ks[i]? = some k ∧ v = Value.str k tk) (few : ks.length < 4000)
    (h : ∀ h' n L, TxtSet P w h' s.heap.objs.size L → L.length = ks.length → (∀ k, k ∈ L ↔ k ∈ ks) → (∀ b o, s.heap.get? b = some o → h'.get? b = some o) → Q (.ref s.heap.objs.size) { s with heap := h', toks := n }) :
    wpAny (model P w) A (call (.type "set") [.ref l]) Q E s := by
  have lS : l < s.heap.objs.size := by
    obtain ⟨o, ho, _⟩ := hl
    exact Heap.lt_size ho
  have ps1 : (s.heap.push (freshO w)).objs.size = s.heap.objs.size + 1 := Heap.size_push ..
  have hl1 : (s.heap.push (freshO w)).IsList l items := hl.push _
  refine set_from (Z := fun s' => ∃ h' n L, s' = { s with heap := h', toks := n } ∧ TxtSet P w h' s.heap.objs.size L ∧ L.length = ks.length ∧ (∀ k, k ∈ L ↔ k ∈ ks) ∧ ∀ b o, s.heap.get? b = some o → h'.get? b = some o) hl ?_ fun s' z => ?_
  · have W := (Walks.list (prog := P) (w := w) (A := A.in1.in1.in1) (by simp [hh]) (s.heap.push (freshO w)).objs.size l (by rw [ps1]; exact Nat.ne_of_lt (Nat.lt_succ_of_lt lS)) items).toS
    refine ts_loop (s := s) W (S := s.heap.objs.size) (ks := ks) (h0 := s.heap) (by rw [ps1, List.mem_cons, List.mem_singleton, not_or]; exact ⟨Nat.ne_of_lt (Nat.lt_succ_self _), Nat.ne_of_gt lS⟩) sz few (fun i v hv => hi i v hv) (none_above (Nat.le_refl _)) (fun b hb => ?_) (fun s' L sm T ll mL kp => ⟨rfl, s'.heap, s'.toks, L, ?_, T, sz ▸ ll, mL, kp⟩) (fun e => e) items.size 0 _ (Nat.zero_add _) ⟨⟨_, Heap.get?_push_size _ rfl, rfl, rfl⟩, hl1.push _⟩ ⟨rfl, rfl, rfl⟩ (fun b o e => Heap.get?_push_of_some _ (Heap.get?_push_of_some _ e)) ⟨[], txtSet_at txt_fresh fun o ho => Heap.get?_push_of_some _ ho, rfl, fun k => by simp⟩
    · rw [List.mem_singleton.mp hb, ps1]
      exact none_above (Nat.le_succ _)
    · obtain ⟨h2, g2, d2, n2, o2⟩ := s'
      obtain ⟨e1, e2, e3⟩ := sm
      cases e1
      cases e2
      cases e3
      rfl
  · obtain ⟨h', n, L, rfl, T, ll, mL, kp⟩ := z
    exact h h' n L T ll mL kp
end
section
variable {X : Cx}
def rSetT (P : Program) (w : World) : List V → Hp → VK → Prop := fun vs H Q => ∃ (l : Addr) (ks : List Str), vs = [.ref l] ∧ H l = some (.lst (ks.map V.str)) ∧ ks.length < 4000 ∧
  ∀ a L, H a = none → L.length = ks.length → (∀ k, k ∈ L ↔ k ∈ ks) → Q (.ref a) (upd H a (TxtO P w a L))
theorem cr_setT (hc : X.calm = true) : CallR X (.type "set") (rSetT X.prog X.w) := by
  intro pins s σ H vs us Q I r h
  obtain ⟨l, ks, rfl, hl, few, q⟩ := h
  obtain ⟨u, rfl, ru⟩ := vals1 r
  obtain rfl : u = Value.ref l := ru
  obtain ⟨its, rv, pl, _⟩ := I.list (.inl (.inl hl))
  have len := rv.length
  rw [List.length_map] at len
  refine ts_set (ks := ks) (I.ok.hd hc) pl.isList (by rw [List.size_toArray]; exact len.symm) (fun i v hv => ?_) few fun h' n L T ll mL kp => ?_
  · have hv' : its[i]? = some v := by simpa using hv
    have lt : i < ks.length := by
      have := (List.getElem?_eq_some_iff.mp hv').1
      omega
    obtain ⟨u, hu, ru⟩ := rv.get (i := i) (x := .str ks[i]) (by rw [List.getElem?_map, List.getElem?_eq_getElem lt]; rfl)
    rw [hv'] at hu
    cases hu
    obtain ⟨tk, rfl⟩ := ru
    exact ⟨ks[i], tk, List.getElem?_eq_getElem lt, rfl⟩
  have hn : H s.heap.objs.size = none := I.hok.fresh (Nat.le_refl _)
  refine ⟨.ref s.heap.objs.size, _, I.laid (t' := n) kp (Nat.le_refl _) (txtO_new T), rfl, q _ L hn ll mL⟩
/-- len(a set of texts) -/
def rLenT (P : Program) (w : World) : List V → Hp → VK → Prop := fun vs H Q => ∃ (a : Addr) (L ks : List Str), vs = [.ref a] ∧ H a = some (TxtO P w a L) ∧ ks.Nodup ∧ (∀ k, k ∈ L ↔ k ∈ ks) ∧ ks.length ≤ 4000 ∧ Q (.int ks.length) H
theorem same_len {xs ys : List Str} (h1 : xs.Nodup) (h2 : ys.Nodup) (h : ∀ k, k ∈ xs ↔ k ∈ ys) : xs.length = ys.length :=
  Nat.le_antisymm (nodup_len h1 fun k hk => (h k).mp hk) (nodup_len h2 fun k hk => (h k).mpr hk)
theorem call_lenT : CallR X (.builtin "len") (rLenT X.prog X.w) := by
  intro pins s σ H vs us Q I r h
  obtain ⟨a, L, ks, rfl, ha, nd, mem, few, q⟩ := h
  obtain ⟨u, rfl, ru⟩ := vals1 r
  obtain rfl : u = Value.ref a := ru
  obtain ⟨o, es, ep, t, ho, hx, hd, T⟩ := txtO_get I ha
  have e : es.size = ks.length := by
    have z := same_len T.once nd fun k => (T.mem k).symm.trans (mem k)
    rw [← z]
    simp [txts]
  exact call_len_set ho hx hd T.fit (by rw [e]; omega) ⟨.int ks.length, H, I.tok _, ⟨_, by rw [e]⟩, q⟩
end
end Cr
/-! registries: early, needs, check_modules -/
namespace Cr
open PySem PySem.Spec PyProof.Rows L2 Evl
abbrev sRNe : Stmt := inClass (topS 21) 30
theorem scRNe : FnScope ["self"] ["self"] (defScope sRNe) := ⟨rfl, rfl, rfl, by decide +kernel, rfl, by decide +kernel, by decide +kernel⟩
abbrev sChkMo : Stmt := topS 20
theorem scChkMo : FnScope ["value", "name"] ["value"] (defScope sChkMo) := ⟨rfl, rfl, rfl, by decide +kernel, rfl, by decide +kernel, by decide +kernel⟩
theorem el_namesV {K : PySem.W.Frag} {te : TE} {tt : TT} {σ : L2.St} {H : Hp} {ns : List Str} {i j : Nat} {a : Addr} (f : Str → Bool) (v : Str → V) (hi : σ[i]? = some (some (.ref a))) (ha : H a = some (.lst (ns.map V.str))) (hz : ns.length ≤ 40000)
    (hw : ∀ x, wipe ((wipe σ [j]).set j (some x)) [j] = wipe σ [j]) (ht : ∀ n H1, Ex H H1 → n ∈ ns → EvT tt ((wipe σ [j]).set j (some (.str n))) H1 (f n)) (he : ∀ n H1, Ex H H1 → n ∈ ns → f n = true → Ev te ((wipe σ [j]).set j (some (.str n))) H1 (v n)) :
    EvL (tLc (iList K (tVar i)) (gName j) tt te [j]) σ H ((ns.filter f).map v) := by
  have lc := el_lcW (wi := iList K (tVar i)) (g := gName j) (tt := tt) (te := te) (vs := [j]) (σ := σ) (H := H) (n := ns.length) (Y := YAt (ns.map V.str)) (fun i => f (ns.getD i "")) (fun i => v (ns.getD i "")) hz
    (fun H1 e1 R r => ⟨.ref a, hi, a, rfl, ⟨_, sq_of (e1 _ _ ha)⟩, r H1 _ (fun H => SqL K H a (ns.map V.str)) (by have w := walk_list (K := K) (a := a) (xs := ns.map V.str); rw [List.length_map] at w; exact w) (fun _ _ e z => ex_l e z) (Ex.refl H1) (sq_of (e1 _ _ ha))⟩)
    (fun i y H1 H2 e1 hi hy => by
      obtain ⟨rfl, hy⟩ := hy
      rw [List.getElem?_map, List.getElem?_eq_getElem hi] at hy
      cases hy
      have gd : ns.getD i "" = ns[i] := by rw [List.getD_eq_getElem?_getD, List.getElem?_eq_getElem hi]; rfl
      rw [gd]
      have mem : ns[i] ∈ ns := List.getElem_mem hi
      exact ⟨Ex.refl _, _, hw _, fun R r => r, ht _ H2 e1 mem, fun h => he _ H2 e1 mem h⟩)
  rw [given_flt ns "" f v] at lc
  exact lc
def spRNe (C CG : Addr) : Sp := fun vs H Q _ => ∃ x HB A U R, vs = [.ref x] ∧ RgAt C CG HB H x A U R ∧ ∀ y A' g' H', H y = none → Ex H H' → NdAt CG H' y A' U g' → H A'.dd = none → (∀ r ∈ g', H r.a = none) → g'.map stR = R.g.map stR → Q (.ref y) H'
def spChkMo : Sp := fun vs H Q _ => ∃ (a : Addr) (ns : List Str), vs = [.ref a] ∧ H a = some (.lst (ns.map V.str)) ∧ (∀ n ∈ ns, isNameS n = true) ∧ ns.Nodup ∧ 1 ≤ ns.length ∧ ns.length ≤ 40 ∧ ∀ H', Ex H H' → Q .non H'
section
variable {P : Program} {w : World} {K : PySem.W.Frag} {mg : Str → Option Value} {base : Heap}
theorem ok_rne {f C CG : Addr} {fd : FuncData} {k : Nat} (F : Fun K "needs" "Registry.needs" sRNe f fd) (T : RgC K mg C) (TN : NdC K mg CG) (h1 : HasM P w K mg base CX0 k CG "clone" ["self"] (spClone CG)) : FnOk P w K mg base CX0 (k + 1) f fd ["self"] (spRNe C CG) := by
  obtain ⟨f1, d1, G1, b1, mm1⟩ := h1.ex
  refine F.ok scRNe (fun vs H Q E h => by obtain ⟨_, _, _, _, _, rfl, _⟩ := h; rfl) (fun cdv A outer s0 H vs Q E hr h => ?_)
  obtain ⟨x, HB, A', U, R, rfl, rg, q⟩ := h
  refine ⟨_, pss_one (ps_ret (pe_meth0 (E := E0) (pe_fld (pv 0) rfl) TN.cl mm1 G1 hr b1 .nil pass0)), ?_⟩
  exact ⟨.ref x, rfl, x, C, A'.dx, _, .ref A'.gN.x, rfl, rg.ob, T.cl, T.nN, flR_N A', A'.gN.x, A'.gN.a.dx, _, rfl, rg.nN.ob, rfl, A'.gN.x, A'.gN.a, U, R.g, rfl, rg.nN, fun y A2 g' H3 zy e3 nd zd zr em => q y A2 g' H3 zy e3 nd zd zr em⟩
theorem ok_chkMo {f : Addr} {fd : FuncData} {k : Nat} {tM : Tok} (F : Fun K "check_modules" "check_modules" sChkMo f fd) (B : Blt mg) (gM : mg "MOST_MODULES" = some (.int 40 tM)) (h1 : HasO P w K mg base k "is_name" ["value"] (spD isName)) : FnOk P w K mg base CX0 (k + 1) f fd ["value"] spChkMo := by
  obtain ⟨f1, d1, G1, b1, k1, g1⟩ := h1.ex
  refine F.ok scChkMo (fun vs H Q E h => by obtain ⟨_, _, rfl, _⟩ := h; rfl) (fun cdv A outer s0 H vs Q E hr h => ?_)
  obtain ⟨a, ns, rfl, ha, nm, nd, l1, l40, q⟩ := h
  have hu := hu_of hr
  refine ⟨_, pss_cons (ps_if (PW.pt (pw_or (pt_not (pt_val (pe_callB call_isiT (by rfl) B.isi bIsi (pa_cons (pv 0) (pa_cons (pe_tup (pa_cons (pe_bltn (v := .ty "list") (by rfl) B.list bList rfl) (pa_cons (pe_bltn (v := .ty "tuple") (by rfl) B.tuple bTuple rfl) pa_nil))) pa_nil)))))
      (pw_or1 (pt_not (pt_chain op_le op_le pe_int (pe_callB call_len_seq (by rfl) B.len bLen (pa_cons (pv 0) pa_nil)) (pe_glob (v := .int 40) (by rfl) gM ⟨_, rfl⟩)))))) pss_dead' pss_nil)
    (pss_one (ps_if (PW.pt (pw_or (pt_not (pt_val (pe_callB (cr_all rfl) (by rfl) B.all bAll (pa_cons (pe_lc (own := [("name", 1)]) (g := gName 1) (tt := tYes) (te := tCall (spD isName) [] E0 (tCons (tVar 1) tNil)) rfl scChkMo.nd (pi_list (pv 0)) (blkOk_by (own := [("name", 1)]) (N := ["value", "name"]) (sc := defScope sChkMo) (by decide +kernel))
        (fun _ _ _ _ _ => pg_name (i := 1) scChkMo.nd rfl (Or.inl rfl)) (fun _ _ _ _ _ => pts_nil) (fun _ _ _ _ _ => by exact pe_call (E := E0) G1 hr (by rfl) g1 k1 b1 .nil pass0 (pa_cons (pv 1) pa_nil))) pa_nil))))
      (pw_or1 (pt_cmpR op_lt (pe_callB call_lenT (by rfl) B.len bLen (pa_cons (pe_callTy (cr_setT (by rfl)) (by rfl) B.set bSet (pa_cons (pv 0) pa_nil)) pa_nil)) (pe_callB call_len_seq (by rfl) B.len bLen (pa_cons (pv 0) pa_nil)) (nomark _))))) pss_dead' pss_nil)), ?_⟩
  have la : (ns.map V.str).length = ns.length := List.length_map ..
  have isS : ∀ {σ : L2.St} {H' : Hp}, σ[0]? = some (some (.ref a)) → Ex H H' → Ev (tCB (rIsiT K) (tCons (tVar 0) (tCons (tTup (tCons (tC (.ty "list")) (tCons (tC (.ty "tuple")) tNil))) tNil))) σ H' (.bl true) := fun {σ H'} h0 e => fun H1 e1 Q' q' => by
    refine ⟨.ref a, h0, by show 2 ≤ sizeLine; decide, fun p zp => ?_⟩
    have hk : PySem.W.kitAny K (.type "list") [.type "list", .type "tuple"] = some true := by
      have z : PySem.W.kitOne K (.type "list") (.type "list") = some true := kit_isT (K := K) (T := "list") (by decide) (.list [])
      unfold PySem.W.kitAny
      rw [z]
    exact ⟨.ref a, p, [.ty "list", .ty "tuple"], .type "list", [.type "list", .type "tuple"], true, rfl, upd_same, .cons (.ty _) (.cons (.ty _) .nil), .base (.lst (Ex.new zp _ _ (e1 _ _ (e _ _ ha)))), hk, q' _ (Ex.new zp)⟩
  refine q_when (b := false) (et_is (et_or (a := false) (et_is (et_not (et_B (isS rfl (Ex.refl H)))) rfl) fun _ => et_is (et_not (et_test (ev_chain ev_c (ev_cb (ea_cons (ev_var rfl) ea_nil) (rc_lenL (sq_of ha))) rv_I0 (fun _ => ev_c) fun _ => rv_I0))) (by
    rw [la, decide_eq_true (show (1 : Int) ≤ (ns.length : Int) by omega), decide_eq_true (show (ns.length : Int) ≤ 40 by omega)]; rfl)) rfl) (fun z => nomatch z) (fun _ H1 e1 => ?_)
  have ha1 := e1 _ _ ha
  have lc := el_namesV (K := K) (tt := tYes) (te := tCall (spD isName) [] E0 (tCons (tVar 1) tNil)) (σ := [some (.ref a), none]) (H := H1) (i := 0) (j := 1) (fun _ => true) (fun _ => .bl true) rfl ha1 (by omega) (fun _ => rfl) (fun y H1 _ _ => fun H4 _ Q q => q H4 (Ex.refl H4)) (fun y H2 e2 hy _ => ev_isName rfl (nm y hy))
  rw [List.filter_eq_self.mpr (fun _ _ => rfl)] at lc
  have em : ns.map (fun _ => V.bl true) = (ns.map fun _ => true).map V.bl := by rw [List.map_map]; rfl
  rw [em] at lc
  have al : (ns.map fun _ => true).all id = true := by rw [List.all_map]; exact List.all_eq_true.mpr fun _ _ => rfl
  have A1 := ev_all (K := K) lc
  rw [al] at A1
  have T2 : EvT (tTest (tOp (rI0 fun i j => .bl (decide (i < j))) (tCB (rLenT P w) (tCons (tCB (rSetT P w) (tCons (tVar 0) tNil)) tNil)) (tCB (fun vs H Q => ∃ p ys, vs = [V.ref p] ∧ (SqL K H p ys ∨ SqT K H p ys) ∧ Q (.int ys.length) H) (tCons (tVar 0) tNil)))) [some (.ref a), none] H1 false := by
    have r1 : RV (rI0 fun i j => V.bl (decide (i < j))) (.int (ns.length : Int)) (.int ((ns.map V.str).length : Int)) H1 (.bl (decide ((ns.length : Int) < ((ns.map V.str).length : Int)))) := rv_I0
    refine et_is (et_test (ev_op (x := .int (ns.length : Int)) (fun H2 e2 Q' q' => ?_) (ev_cb (ea_cons (ev_var rfl) ea_nil) (rc_lenL (sq_of ha1))) r1)) (decide_eq_false (by rw [la]; omega))
    exact ⟨.ref a, rfl, a, ns, rfl, e2 _ _ ha1, by omega, fun S L zS hL hm => ⟨S, L, ns, rfl, upd_same, nd, hm, by omega, q' _ (Ex.new zS)⟩⟩
  exact s_when (b := false) (et_is (et_or (a := false) (et_is (et_not (et_B A1)) rfl) fun _ => T2) rfl) (fun z => nomatch z) (fun _ H2 e2 => q H2 (e1.trans e2))
end
end Cr
/-! registries: __init__ -/
namespace Cr
open PySem PySem.Spec PyProof.Rows L2 Evl
abbrev sRNew : Stmt := inClass (topS 21) 1
abbrev nRNew : List Str := ["self", "names", "name", "modules", "module"]
theorem scRNew : FnScope nRNew ["self", "names"] (defScope sRNew) := ⟨rfl, rfl, rfl, by decide +kernel, rfl, by decide +kernel, by decide +kernel⟩
/-- a new registry -/
structure NewRg (U : List Str) (R : Rg) : Prop where
  st : R.st = U.map fun m => (m, ("new" : Str))
  ex : ∀ r ∈ R.ex, r.2.2 = []
  ch : R.ch = []
  hd : R.hd = []
  g : R.g = []
  ge : R.ge = []
  ga : R.ga = []
def spRNew (C CG : Addr) : Sp := fun vs H Q _ => ∃ (x dx a : Addr) (ns : List Str) (HB : Hp), vs = [.ref x, .ref a] ∧ H x = some (.ins C dx []) ∧ H a = some (.lst (ns.map V.str)) ∧ (∀ n ∈ ns, isNameS n = true) ∧ ns.Nodup ∧ 1 ≤ ns.length ∧ ns.length ≤ 40 ∧ Ex HB H ∧ HB x = none ∧
  ∀ A R H', RgAt C CG HB H' x A (srtS ns) R → NewRg (srtS ns) R → (∀ a ∈ ownR A R, H a = none) → (∀ b o, b ≠ x → H b = some o → H' b = some o) → Q .non H'
theorem nodup_one {α : Type} {a : α} : [a].Nodup := List.nodup_cons.mpr ⟨(fun z => nomatch z), List.nodup_nil⟩
/-- places of one part are told from those of another by when they were made -/
theorem nd_levels {A : RgA} {R : Rg} (Hs : Nat → Hp) (mono : ∀ i a, Hs i a ≠ none → Hs (i + 1) a ≠ none) (h : ∀ i, ∀ a ∈ segR A R i, Hs i a = none ∧ Hs (i + 1) a ≠ none) : ∀ i j a, a ∈ segR A R i → a ∈ segR A R j → i = j := by
  have up : ∀ {i j : Nat} {a : Addr}, i ≤ j → Hs i a ≠ none → Hs j a ≠ none := fun {i j a} hij hi => by
    induction hij with
    | refl => exact hi
    | step _ ih => exact mono _ _ ih
  have one : ∀ {i j : Nat} {a : Addr}, i < j → a ∈ segR A R i → a ∈ segR A R j → False := fun {i j a} hij h1 h2 => up hij (h i a h1).2 (h j a h2).1
  intro i j a h1 h2
  rcases Nat.lt_trichotomy i j with z | z | z
  · exact (one z h1 h2).elim
  · exact z
  · exact (one z h2 h1).elim
theorem q_fld {K : PySem.W.Frag} {f : Str} {x C dx : Addr} {fs : List (Str × V)} {tv : TE} {tz : TS} {D : Ends} {σ : L2.St} {G : Hp} {i : Nat} (Wv : V → Hp → Prop) (hi : σ[i]? = some (some (.ref x))) (hx : G x = some (.ins C dx fs)) (cl : Cls K C) (na : NoAttr K C f) (few : fs.length < 1000)
    (ht : ∀ Q : VK, (∀ v H', Ex G H' → Wv v H' → Q v H') → tv σ G Q) (k : ∀ v H', Ex G H' → Wv v H' → tz D σ (upd H' x (.ins C dx (putF f v fs)))) : tSeq (sFld K (tVar i) tv f) tz D σ G :=
  ht _ fun v H' e w => ⟨.ref x, hi, x, C, dx, fs, rfl, e _ _ hx, cl, na, few, k v H' e w⟩
theorem s_fld {K : PySem.W.Frag} {f : Str} {x C dx : Addr} {fs : List (Str × V)} {tv : TE} {D : Ends} {σ : L2.St} {G : Hp} {i : Nat} (Wv : V → Hp → Prop) (hi : σ[i]? = some (some (.ref x))) (hx : G x = some (.ins C dx fs)) (cl : Cls K C) (na : NoAttr K C f) (few : fs.length < 1000)
    (ht : ∀ Q : VK, (∀ v H', Ex G H' → Wv v H' → Q v H') → tv σ G Q) (k : ∀ v H', Ex G H' → Wv v H' → D.nx σ (upd H' x (.ins C dx (putF f v fs)))) : sFld K (tVar i) tv f D σ G :=
  ht _ fun v H' e w => ⟨.ref x, hi, x, C, dx, fs, rfl, e _ _ hx, cl, na, few, k v H' e w⟩
theorem make_nd {C : Addr} {U : List Str} {σ : L2.St} {H : Hp} {Q : VK} (hU : ∀ n ∈ U, isNameS n = true) (lU : U.length ≤ 62) (k : ∀ x A H', Ex H H' → NewG C H H' x A U [] → Q (.ref x) H') : tMake C (spNInit C) [] E0 tNil σ H Q :=
  fun y dy zy zdy nyd => ⟨y, dy, rfl, upd_same, fun dd2 H3 zdd ndx eH3 => ⟨rfl, new_of hU lU k zy zdy nyd zdd ndx eH3⟩⟩
theorem butX {G H' : Hp} {x : Addr} {o : HO} (e : Ex G H') : But [x] G (upd H' x o) := fun b o hb h => by
  rw [upd_ne (fun z => hb (by rw [z]; exact List.mem_singleton.mpr rfl))]
  exact e _ _ h
theorem keepX {H' : Hp} {x c : Addr} {o oc : HO} (h : H' c = some oc) (n : c ≠ x) : (upd H' x o) c = some oc := by
  rw [upd_ne n]; exact h
section
variable {P : Program} {w : World} {K : PySem.W.Frag} {mg : Str → Option Value} {base : Heap}
theorem ok_rnew {f C CG fG : Addr} {fd dG : FuncData} {k kg : Nat} (F : Fun K "__init__" "Registry.__init__" sRNew f fd) (B : Blt mg) (T : RgC K mg C) (TN : NdC K mg CG) (h1 : HasO P w K mg base k "check_modules" ["value"] spChkMo) (h2 : HasO P w K mg base k "bare_word" ["word"] spBareW)
    (MG : Mk K CG fG) (GG : FnOk P w K mg base CX0 kg fG dG ["self"] (spNInit CG)) (bG : Binds K dG ["self"] []) (hkg : kg + 1 ≤ k) : FnOk P w K mg base CX0 (k + 1) f fd ["self", "names"] (spRNew C CG) := by
  obtain ⟨f1, d1, G1, b1, k1, g1⟩ := h1.ex
  obtain ⟨f2, d2, G2, b2, k2, g2⟩ := h2.ex
  refine F.ok scRNew (fun vs H Q E h => by obtain ⟨_, _, _, _, _, rfl, _⟩ := h; rfl) (fun cdv A outer s0 H vs Q E hr h => ?_)
  obtain ⟨x, dx, a, ns, HB, rfl, hx, ha, nm, nd, l1, l40, eB, zB, q⟩ := h
  have hu := hu_of hr
  have hrG := hr.mono (j := kg + 1) hkg
  refine ⟨_, pss_cons (ps_expr (pe_call (E := E0) G1 hr (by rfl) g1 k1 b1 .nil pass0 (pa_cons (pv 1) pa_nil)))
    (pss_cons (ps_setLc (i := 3) (own := [("name", 2)]) (g := gName 2) (tt := tYes) (te := tCall spBareW [] E0 (tCons (tVar 2) tNil)) rfl scRNew.nd rfl rfl (sw_true rfl rfl rfl (by decide +kernel)) (pi_list (pe_callB cr_sortedS (by rfl) B.sorted bSorted (pa_cons (pv 1) pa_nil))) (blkOk_by (own := [("name", 2)]) (N := nRNew) (sc := defScope sRNew) (by decide +kernel))
      (fun _ _ _ _ _ => pg_name (i := 2) scRNew.nd rfl (Or.inl rfl)) (fun _ _ _ _ _ => pts_nil) (fun _ _ _ _ _ => by exact pe_call (E := E0) G2 hr (by rfl) g2 k2 b2 .nil pass0 (pa_cons (pv 2) pa_nil)))
    (pss_cons (ps_fld (pv 0) (pe_dc (own := [("module", 4)]) (g := gName 4) (tt := tYes) (tk := tVar 4) (tv := tC (.str "new")) rfl scRNew.nd (pi_list (pv 3)) (blkOk_by (own := [("module", 4)]) (N := nRNew) (sc := defScope sRNew) (by decide +kernel))
        (fun _ _ _ _ _ => pg_name (i := 4) scRNew.nd rfl (Or.inl rfl)) (fun _ _ _ _ _ => pts_nil) (fun _ _ _ _ _ => pv 4) (fun _ _ _ _ _ => pe_str)) rfl)
    (pss_cons (ps_fld (pv 0) (pe_dc (own := [("module", 4)]) (g := gName 4) (tt := tYes) (tk := tVar 4) (tv := tDNewK) rfl scRNew.nd (pi_list (pv 3)) (blkOk_by (own := [("module", 4)]) (N := nRNew) (sc := defScope sRNew) (by decide +kernel))
        (fun _ _ _ _ _ => pg_name (i := 4) scRNew.nd rfl (Or.inl rfl)) (fun _ _ _ _ _ => pts_nil) (fun _ _ _ _ _ => pv 4) (fun _ _ _ _ _ => pe_dnewK)) rfl)
    (pss_cons (ps_fld (pv 0) pe_dnewK rfl)
    (pss_cons (ps_fld (pv 0) pe_dnewK rfl)
    (pss_cons (ps_fld (pv 0) (pe_make0 (E := E0) MG GG hrG (by rfl) TN.at_ bG .nil pass0) rfl)
    (pss_cons (ps_fld (pv 0) (pe_make0 (E := E0) MG GG hrG (by rfl) TN.at_ bG .nil pass0) rfl)
    (pss_one (ps_fld (pv 0) (pe_make0 (E := E0) MG GG hrG (by rfl) TN.at_ bG .nil pass0) rfl))))))))), ?_⟩
  refine q_dropAny ⟨.ref a, rfl, a, ns, rfl, ha, nm, nd, l1, l40, fun H1 e1 => ?_⟩
  obtain ⟨U, hU⟩ : ∃ U, U = srtS ns := ⟨_, rfl⟩
  have lU : U.length = ns.length := by rw [hU]; exact (srtS_perm ns).length_eq
  have up : U.Pairwise ltS := by rw [hU]; exact srtS_lt nd
  have un : ∀ n ∈ U, isNameS n = true := fun n hn => by rw [hU] at hn; exact nm n ((srtS_perm ns).mem_iff.mp hn)
  have ndU := rise_nodup up
  have so : EvL (tCB (rSortedS K) (tCons (tVar 1) tNil)) [some (.ref x), some (.ref a), none, none, none] H1 (U.map V.str) := fun H2 e2 Q' q' =>
    ⟨.ref a, rfl, a, ns, rfl, sq_of (e2 _ _ (e1 _ _ ha)), by omega, fun ys p hp hso zp => by
      rw [sorted_is hp hso, ← hU]
      exact q' p _ zp (Ex.new zp) upd_same⟩
  have lc := el_namesW (K := K) (tt := tYes) (te := tCall spBareW [] E0 (tCons (tVar 2) tNil)) (σ := [some (.ref x), some (.ref a), none, none, none]) (H := H1) (j := 2) (fun _ => true) V.str so (by omega) (fun _ => rfl) (fun y H1 _ _ => fun H4 _ Q q => q H4 (Ex.refl H4)) (fun y H2 e2 hy _ => ev_bareW (ev_var rfl) (un y hy))
  rw [List.filter_eq_self.mpr (fun _ _ => rfl)] at lc
  refine q_asgL lc fun S G0 zS e2 hS => ?_
  have eG0 := e1.trans e2
  have x0 := eG0 _ _ hx
  have eB0 := eB.trans eG0
  show tSeq _ _ _ [some (.ref x), some (.ref a), none, some (.ref S), none] G0
  have vS : ∀ {G : Hp}, G S = some (.lst (U.map V.str)) → ∀ R : VK, (∀ S' H1, Ex G H1 → H1 S' = some (.lst (U.map V.str)) → R (.ref S') H1) → tVar 3 [some (.ref x), some (.ref a), none, some (.ref S), none] G R := fun {G} h R r => ⟨.ref S, rfl, r S G (Ex.refl G) h⟩
  have ne_of : ∀ {G : Hp} {c : Addr} {o : HO}, G x = some o → G c = none → c ≠ x := fun h z e => by rw [e, h] at z; cases z
  have Sx : S ≠ x := ne_of (e1 _ _ hx) zS
  refine q_fld (fun v H' => ∃ D, v = .ref D ∧ G0 D = none ∧ H' D = some (.dK (kvSt (U.map fun m => (m, ("new" : Str)))))) rfl x0 T.cl T.nS (by show 0 < 1000; decide) (fun Q' q' => ?_) fun v H' e ⟨aS, ev, zD, hD⟩ => ?_
  · refine dc_namesG (K := K) (j := 4) (ns := U) (fun _ rows => ∀ r ∈ rows, r.2 = .str "new") (fun _ h => h) (fun r h => nomatch h) (vS hS) ndU (by omega) (fun _ => rfl) (fun n hn H2 e2 => ev_var rfl) (fun n hn D H2 rows zD e2 hD hp Q' q' => q' _ _ (Ex.refl _) fun r hr => ?_) fun D H2 rows zD hrows e2 hD hp => q' _ _ e2 ⟨D, rfl, zD, ?_⟩
    · rcases List.mem_append.mp hr with z | z
      · exact hp r z
      · rw [List.mem_singleton.mp z]
    · rw [hD, ← hrows]
      congr 2
      unfold kvN kvSt
      rw [List.map_map, List.map_map]
      exact List.map_congr_left fun r hr => by show (_, _) = (_, _); rw [hp r hr]
  subst ev
  have zS0 := zD
  have nS : aS ≠ x := ne_of x0 zD
  have b0 := butX (x := x) (o := .ins C dx (putF "states" (.ref aS) [])) e
  have x1 : (upd H' x (.ins C dx (putF "states" (.ref aS) []))) x = some (.ins C dx [("states", .ref aS)]) := upd_same
  have hS1 := keepX (o := .ins C dx (putF "states" (.ref aS) [])) hD nS
  generalize upd H' x (.ins C dx (putF "states" (.ref aS) [])) = G1 at b0 x1 hS1 ⊢
  have nx1 : ∀ c, c ≠ x → c ∉ [x] := fun c h z => h (List.mem_singleton.mp z)
  have SL1 := b0 _ _ (nx1 _ Sx) hS
  refine q_fld (fun v H' => ∃ (D : Addr) (xs : XRows), v = .ref D ∧ G1 D = none ∧ H' D = some (.dK (kvX xs)) ∧ xs.map (·.1) = U ∧ (xs.map xAd).Nodup ∧ D ∉ xs.map xAd ∧ ∀ r ∈ xs, r.2.2 = [] ∧ H' r.2.1 = some (.dK []) ∧ G1 r.2.1 = none) rfl x1 T.cl T.nX (by show 1 < 1000; decide) (fun Q' q' => ?_) fun v H' e ⟨aX, xs, ev, zD, hD, xk, xn, xd, xi⟩ => ?_
  · refine dc_namesG (K := K) (j := 4) (ns := U) (fun H' rows => ∃ xs : XRows, rows = xs.map (fun r => (r.1, .ref r.2.1)) ∧ (xs.map xAd).Nodup ∧ ∀ r ∈ xs, r.2.2 = [] ∧ H' r.2.1 = some (.dK []) ∧ G1 r.2.1 = none) (fun e h => by
        obtain ⟨xs, h1, h2, h3⟩ := h
        exact ⟨xs, h1, h2, fun r hr => ⟨(h3 r hr).1, e _ _ (h3 r hr).2.1, (h3 r hr).2.2⟩⟩) ⟨[], rfl, List.nodup_nil, fun r h => nomatch h⟩ (vS SL1) ndU (by omega) (fun _ => rfl) (fun n hn H2 e2 => ev_var rfl) (fun n hn D H2 rows zD e2 hD hp Q' q' => ?_) fun D H2 rows zD hrows e2 hD hp => ?_
    · obtain ⟨xs, h1, h2, h3⟩ := hp
      intro b zb
      have bD : b ≠ D := fun z => hD (by rw [← z]; exact zb)
      have wb : (wo D H2) b = none := by rw [wo_ne bD]; exact zb
      have ew : Ex (wo D H2) (wo D (upd H2 b (.dK []))) := Ex.wo (Ex.new zb)
      refine q' _ _ (Ex.new zb) ⟨xs ++ [(n, (b, []))], by rw [h1, List.map_append]; rfl, ?_, fun r hr => ?_⟩
      · rw [List.map_append, List.nodup_append]
        refine ⟨h2, nodup_one, fun c hc d hd => ?_⟩
        obtain ⟨r, hr, rfl⟩ := List.mem_map.mp hc
        have hd' : d = b := List.mem_singleton.mp hd
        rw [hd']
        intro z
        have y := (h3 r hr).2.1
        rw [show r.2.1 = b from z, wb] at y
        cases y
      · rcases List.mem_append.mp hr with z | z
        · exact ⟨(h3 r z).1, ew _ _ (h3 r z).2.1, (h3 r z).2.2⟩
        · rw [List.mem_singleton.mp z]
          exact ⟨rfl, by show (wo D _) b = _; rw [wo_ne bD, upd_same], fresh_back e2 wb⟩
    · obtain ⟨xs, h1, h2, h3⟩ := hp
      have ne : ∀ r ∈ xs, r.2.1 ≠ D := fun r hr z => by
        have y := (h3 r hr).2.1
        rw [z] at y
        unfold wo at y
        rw [if_pos rfl] at y
        cases y
      refine q' _ _ e2 ⟨D, xs, rfl, zD, ?_, ?_, h2, fun z => ?_, fun r hr => ⟨(h3 r hr).1, ?_, (h3 r hr).2.2⟩⟩
      · rw [hD, h1]
        unfold kvN kvX
        rw [List.map_map]
        rfl
      · rw [← hrows, h1, List.map_map]
        rfl
      · obtain ⟨r, hr, e⟩ := List.mem_map.mp z
        exact ne r hr e
      · have y := (h3 r hr).2.1
        rw [wo_ne (ne r hr)] at y
        exact y
  subst ev
  have nX : aX ≠ x := ne_of x1 zD
  have b1 := butX (x := x) (o := .ins C dx (putF "exported" (.ref aX) [("states", .ref aS)])) e
  have x2 : (upd H' x (.ins C dx (putF "exported" (.ref aX) [("states", .ref aS)]))) x = some (.ins C dx [("states", .ref aS), ("exported", .ref aX)]) := upd_same
  have hX2 := keepX (o := .ins C dx (putF "exported" (.ref aX) [("states", .ref aS)])) hD nX
  have hXi2 : ∀ r ∈ xs, (upd H' x (.ins C dx (putF "exported" (.ref aX) [("states", .ref aS)]))) r.2.1 = some (.dK []) := fun r hr => keepX (xi r hr).2.1 (ne_of x1 (xi r hr).2.2)
  have zX1 := zD
  have zXi1 : ∀ r ∈ xs, G1 r.2.1 = none := fun r hr => (xi r hr).2.2
  have xe : ∀ r ∈ xs, r.2.2 = [] := fun r hr => (xi r hr).1
  generalize upd H' x (.ins C dx (putF "exported" (.ref aX) [("states", .ref aS)])) = G2 at b1 x2 hX2 hXi2 ⊢
  have dnew : ∀ {G : Hp} {σ : L2.St} (Q' : VK), (∀ v H', Ex G H' → (∃ D, v = .ref D ∧ G D = none ∧ H' D = some (.dK [])) → Q' v H') → tDNewK σ G Q' := fun {G σ} Q' q' => fun D zD => q' _ _ (Ex.new zD) ⟨D, rfl, zD, upd_same⟩
  refine q_fld (fun v H' => ∃ D, v = .ref D ∧ G2 D = none ∧ H' D = some (.dK [])) rfl x2 T.cl T.nC (by show 2 < 1000; decide) dnew fun v H' e ⟨aC, ev, zC2, hD⟩ => ?_
  subst ev
  have nC : aC ≠ x := ne_of x2 zC2
  have b2 := butX (x := x) (o := .ins C dx (putF "chains" (.ref aC) [("states", .ref aS), ("exported", .ref aX)])) e
  have x3 : (upd H' x (.ins C dx (putF "chains" (.ref aC) [("states", .ref aS), ("exported", .ref aX)]))) x = some (.ins C dx [("states", .ref aS), ("exported", .ref aX), ("chains", .ref aC)]) := upd_same
  have hC3 := keepX (o := .ins C dx (putF "chains" (.ref aC) [("states", .ref aS), ("exported", .ref aX)])) hD nC
  generalize upd H' x (.ins C dx (putF "chains" (.ref aC) [("states", .ref aS), ("exported", .ref aX)])) = G3 at b2 x3 hC3 ⊢
  refine q_fld (fun v H' => ∃ D, v = .ref D ∧ G3 D = none ∧ H' D = some (.dK [])) rfl x3 T.cl T.nH (by show 3 < 1000; decide) dnew fun v H' e ⟨aH, ev, zH3, hD⟩ => ?_
  subst ev
  have nH : aH ≠ x := ne_of x3 zH3
  have b3 := butX (x := x) (o := .ins C dx (putF "held" (.ref aH) [("states", .ref aS), ("exported", .ref aX), ("chains", .ref aC)])) e
  have x4 : (upd H' x (.ins C dx (putF "held" (.ref aH) [("states", .ref aS), ("exported", .ref aX), ("chains", .ref aC)]))) x = some (.ins C dx [("states", .ref aS), ("exported", .ref aX), ("chains", .ref aC), ("held", .ref aH)]) := upd_same
  have hH4 := keepX (o := .ins C dx (putF "held" (.ref aH) [("states", .ref aS), ("exported", .ref aX), ("chains", .ref aC)])) hD nH
  generalize upd H' x (.ins C dx (putF "held" (.ref aH) [("states", .ref aS), ("exported", .ref aX), ("chains", .ref aC)])) = G4 at b3 x4 hH4 ⊢
  have gnew : ∀ {G : Hp} {σ : L2.St} (Q' : VK), (∀ v H', Ex G H' → (∃ y A, v = .ref y ∧ NewG CG G H' y A U []) → Q' v H') → tMake CG (spNInit CG) [] E0 tNil σ G Q' := fun {G σ} Q' q' => make_nd un (by omega) fun y A H' e n => q' _ _ e ⟨y, A, rfl, n⟩
  refine q_fld (fun v H' => ∃ y A, v = .ref y ∧ NewG CG G4 H' y A U []) rfl x4 T.cl T.nN (by show 4 < 1000; decide) gnew fun v H' e ⟨yN, AN, ev, ngN⟩ => ?_
  subst ev
  have b4 := butX (x := x) (o := .ins C dx (putF "graph" (.ref yN) [("states", .ref aS), ("exported", .ref aX), ("chains", .ref aC), ("held", .ref aH)])) e
  have x5 : (upd H' x (.ins C dx (putF "graph" (.ref yN) [("states", .ref aS), ("exported", .ref aX), ("chains", .ref aC), ("held", .ref aH)]))) x = some (.ins C dx [("states", .ref aS), ("exported", .ref aX), ("chains", .ref aC), ("held", .ref aH), ("graph", .ref yN)]) := upd_same
  have nd5 : NdAt CG (upd H' x (.ins C dx (putF "graph" (.ref yN) [("states", .ref aS), ("exported", .ref aX), ("chains", .ref aC), ("held", .ref aH)]))) yN AN U [] := ngN.nd.but (butX (Ex.refl H')) (nx1 _ (ne_of x4 ngN.zx)) (nx1 _ (ne_of x4 ngN.zd)) (fun r hr => nomatch hr)
  have zy4 := ngN.zx
  have zd4 := ngN.zd
  generalize upd H' x (.ins C dx (putF "graph" (.ref yN) [("states", .ref aS), ("exported", .ref aX), ("chains", .ref aC), ("held", .ref aH)])) = G5 at b4 x5 nd5 ⊢
  refine q_fld (fun v H' => ∃ y A, v = .ref y ∧ NewG CG G5 H' y A U []) rfl x5 T.cl T.nE (by show 5 < 1000; decide) gnew fun v H' e ⟨yE, AE, ev, ngE⟩ => ?_
  subst ev
  have b5 := butX (x := x) (o := .ins C dx (putF "graph_ever" (.ref yE) [("states", .ref aS), ("exported", .ref aX), ("chains", .ref aC), ("held", .ref aH), ("graph", .ref yN)])) e
  have x6 : (upd H' x (.ins C dx (putF "graph_ever" (.ref yE) [("states", .ref aS), ("exported", .ref aX), ("chains", .ref aC), ("held", .ref aH), ("graph", .ref yN)]))) x = some (.ins C dx [("states", .ref aS), ("exported", .ref aX), ("chains", .ref aC), ("held", .ref aH), ("graph", .ref yN), ("graph_ever", .ref yE)]) := upd_same
  have nd6 : NdAt CG (upd H' x (.ins C dx (putF "graph_ever" (.ref yE) [("states", .ref aS), ("exported", .ref aX), ("chains", .ref aC), ("held", .ref aH), ("graph", .ref yN)]))) yE AE U [] := ngE.nd.but (butX (Ex.refl H')) (nx1 _ (ne_of x5 ngE.zx)) (nx1 _ (ne_of x5 ngE.zd)) (fun r hr => nomatch hr)
  have zy5 := ngE.zx
  have zd5 := ngE.zd
  generalize upd H' x (.ins C dx (putF "graph_ever" (.ref yE) [("states", .ref aS), ("exported", .ref aX), ("chains", .ref aC), ("held", .ref aH), ("graph", .ref yN)])) = G6 at b5 x6 nd6 ⊢
  refine s_fld (fun v H' => ∃ y A, v = .ref y ∧ NewG CG G6 H' y A U []) rfl x6 T.cl T.nA (by show 6 < 1000; decide) gnew fun v H' e ⟨yA, AA, ev, ngA⟩ => ?_
  subst ev
  have b6 := butX (x := x) (o := .ins C dx (putF "accesses" (.ref yA) [("states", .ref aS), ("exported", .ref aX), ("chains", .ref aC), ("held", .ref aH), ("graph", .ref yN), ("graph_ever", .ref yE)])) e
  have x7 : (upd H' x (.ins C dx (putF "accesses" (.ref yA) [("states", .ref aS), ("exported", .ref aX), ("chains", .ref aC), ("held", .ref aH), ("graph", .ref yN), ("graph_ever", .ref yE)]))) x = some (.ins C dx [("states", .ref aS), ("exported", .ref aX), ("chains", .ref aC), ("held", .ref aH), ("graph", .ref yN), ("graph_ever", .ref yE), ("accesses", .ref yA)]) := upd_same
  have nd7 : NdAt CG (upd H' x (.ins C dx (putF "accesses" (.ref yA) [("states", .ref aS), ("exported", .ref aX), ("chains", .ref aC), ("held", .ref aH), ("graph", .ref yN), ("graph_ever", .ref yE)]))) yA AA U [] := ngA.nd.but (butX (Ex.refl H')) (nx1 _ (ne_of x6 ngA.zx)) (nx1 _ (ne_of x6 ngA.zd)) (fun r hr => nomatch hr)
  have zy6 := ngA.zx
  have zd6 := ngA.zd
  generalize upd H' x (.ins C dx (putF "accesses" (.ref yA) [("states", .ref aS), ("exported", .ref aX), ("chains", .ref aC), ("held", .ref aH), ("graph", .ref yN), ("graph_ever", .ref yE)])) = G7 at b6 x7 nd7 ⊢
  have mono1 : ∀ {G G' : Hp}, But [x] G G' → G' x ≠ none → ∀ a, G a ≠ none → G' a ≠ none := fun {G G'} b h a ha => by
    by_cases z : a = x
    · rw [z]; exact h
    · cases hh : G a with
      | none => exact absurd hh ha
      | some o => rw [b _ _ (nx1 _ z) hh]; exact fun y => nomatch y
  have sm : ∀ {G : Hp} {c : Addr} {o : HO}, G c = some o → G c ≠ none := fun h z => by rw [h] at z; cases z
  have m0 := mono1 b0 (sm x1)
  have m1 := mono1 b1 (sm x2)
  have m2 := mono1 b2 (sm x3)
  have m3 := mono1 b3 (sm x4)
  have m4 := mono1 b4 (sm x5)
  have m5 := mono1 b5 (sm x6)
  have m6 := mono1 b6 (sm x7)
  have t56 := b5.trans b6
  have t46 := b4.trans t56
  have t36 := b3.trans t46
  have t26 := b2.trans t36
  have t16 := b1.trans t26
  have t06 := b0.trans t16
  obtain ⟨Hs, hHs⟩ : ∃ Hs : Nat → Hp, Hs = fun i => match i with | 0 => G0 | 1 => G1 | 2 => G2 | 3 => G3 | 4 => G4 | 5 => G5 | 6 => G6 | _ => G7 := ⟨_, rfl⟩
  obtain ⟨A', hA'⟩ : ∃ A' : RgA, A' = ⟨dx, aS, aX, aC, aH, ⟨yN, AN⟩, ⟨yE, AE⟩, ⟨yA, AA⟩⟩ := ⟨_, rfl⟩
  obtain ⟨R, hR⟩ : ∃ R : Rg, R = ⟨U.map fun m => (m, ("new" : Str)), xs, [], [], [], [], []⟩ := ⟨_, rfl⟩
  have mono : ∀ i a, Hs i a ≠ none → Hs (i + 1) a ≠ none := fun i a h => by
    rw [hHs] at h ⊢
    match i, h with
    | 0, h => exact m0 a h
    | 1, h => exact m1 a h
    | 2, h => exact m2 a h
    | 3, h => exact m3 a h
    | 4, h => exact m4 a h
    | 5, h => exact m5 a h
    | 6, h => exact m6 a h
    | n + 7, h => exact h
  have lev : ∀ i, ∀ c ∈ segR A' R i, Hs i c = none ∧ Hs (i + 1) c ≠ none := fun i c hc => by
    rw [hA', hR] at hc
    rw [hHs]
    match i, hc with
    | 0, hc =>
      rw [List.mem_singleton.mp hc]
      exact ⟨zS0, sm hS1⟩
    | 1, hc =>
      rcases List.mem_cons.mp hc with rfl | hc
      · exact ⟨zX1, sm hX2⟩
      · obtain ⟨r, hr, rfl⟩ := List.mem_map.mp hc
        exact ⟨zXi1 r hr, sm (hXi2 r hr)⟩
    | 2, hc =>
      rw [List.mem_singleton.mp hc]
      exact ⟨zC2, sm hC3⟩
    | 3, hc =>
      rw [List.mem_singleton.mp hc]
      exact ⟨zH3, sm hH4⟩
    | 4, hc =>
      rw [List.mem_singleton.mp hc]
      exact ⟨zd4, sm nd5.di⟩
    | 5, hc =>
      rw [List.mem_singleton.mp hc]
      exact ⟨zd5, sm nd6.di⟩
    | 6, hc =>
      rw [List.mem_singleton.mp hc]
      exact ⟨zd6, sm nd7.di⟩
    | n + 7, hc => exact nomatch hc
  have zero : ∀ i c, Hs i c = none → G0 c = none := fun i c h => by
    cases hh : G0 c with
    | none => rfl
    | some o =>
      exfalso
      have go : ∀ i, Hs i c ≠ none := fun i => by
        induction i with
        | zero => rw [hHs]; exact sm hh
        | succ i ih => exact mono i c ih
      exact go i h
  have eBx : Ex HB G7 := fun c o hc => t06 _ _ (nx1 _ fun z => by rw [z, zB] at hc; cases hc) (eB0 _ _ hc)
  refine q A' R G7 ?_ ?_ (fun c hc => ?_) (fun b o nb hb => t06 _ _ (nx1 _ nb) (eG0 _ _ hb))
  · rw [← hU]
    refine ⟨?_, ?_, ?_, ?_, ?_, ?_, ?_, ?_, ?_, ?_, nd_levels Hs mono lev, fun i => ?_, fun c hc => ?_, eBx, ?_⟩
    · rw [hA']; exact x7
    · rw [hA', hR]; exact t16 _ _ (nx1 _ nS) hS1
    · rw [hA', hR]; exact t26 _ _ (nx1 _ nX) hX2
    · rw [hR]
      intro r hr
      rw [xe r hr]
      exact t26 _ _ (nx1 _ (ne_of x1 (zXi1 r hr))) (hXi2 r hr)
    · rw [hA', hR]; exact t36 _ _ (nx1 _ nC) hC3
    · rw [hR]; exact fun r hr => nomatch hr
    · rw [hA', hR]; exact t46 _ _ (nx1 _ nH) hH4
    · rw [hA', hR]; exact nd5.but t56 (nx1 _ (ne_of x4 zy4)) (nx1 _ (ne_of x4 zd4)) (fun r hr => nomatch hr)
    · rw [hA', hR]; exact nd6.but b6 (nx1 _ (ne_of x5 zy5)) (nx1 _ (ne_of x5 zd5)) (fun r hr => nomatch hr)
    · rw [hA', hR]; exact nd7
    · rw [hA', hR]
      match i with
      | 0 => exact nodup_one
      | 1 => exact List.nodup_cons.mpr ⟨xd, xn⟩
      | 2 => exact nodup_one
      | 3 => exact nodup_one
      | 4 => exact nodup_one
      | 5 => exact nodup_one
      | 6 => exact nodup_one
      | n + 7 => exact List.nodup_nil
    · obtain ⟨i, hi⟩ := mem_ownR.mp hc
      exact fresh_back eB0 (zero i c (lev i c hi).1)
    · rw [hR]
      exact ⟨un, up, by omega, by omega, (by rw [List.map_map]; exact List.map_id _), (fun r hr => by
        obtain ⟨m, _, rfl⟩ := List.mem_map.mp hr
        show ("new" : Str) ∈ states5
        decide +kernel), xk, (fun r hr => by rw [xe r hr]; exact List.nodup_nil), List.nodup_nil, (fun n hn => nomatch hn), List.nodup_nil, (fun n hn => nomatch hn)⟩
  · rw [← hU, hR]
    exact ⟨rfl, xe, rfl, rfl, rfl, rfl, rfl⟩
  · obtain ⟨i, hi⟩ := mem_ownR.mp hc
    exact fresh_back eG0 (zero i c (lev i c hi).1)
end
end Cr
/-! new pairs in a comprehension over any walk; parts of lists of names -/
namespace Cr
open PySem PySem.Spec PyProof.Rows L2 Evl
theorem pD_refB {H : Hp} {v : V} {q : Pr} (h : Dt H v (pD q)) : ∃ T, v = .ref T ∧ H T = some (.tup [.str q.1, .str q.2]) := by
  cases h with
  | @tup T _ _ hT hv =>
  cases hv with
  | cons hva hv =>
  cases hv with
  | cons hvb hv =>
  cases hv
  cases dt_str hva
  cases dt_str hvb
  exact ⟨T, rfl, hT⟩
theorem el_cat {t1 t2 : TE} {σ : L2.St} {H : Hp} {xs ys : List V} (h1 : EvL t1 σ H xs) (h2 : EvL t2 σ H ys) (hl : xs.length + ys.length ≤ 100000) : EvL (tOp rCat t1 t2) σ H (xs ++ ys) := fun H1 e Q q =>
  h1 H1 e _ fun a H2 za e2 ha => h2 H2 (e.trans e2) _ fun b H3 zb e3 hb => ⟨a, b, xs, ys, rfl, rfl, e3 _ _ ha, hb, Nat.le_trans hl (by decide), fun d hd => q d _ (fresh_back (e2.trans e3) hd) ((e2.trans e3).trans (Ex.new hd)) upd_same⟩
end Cr
/-! the law's own order: a list mixed -/
/-! a graph beside its pairs, rules -/
namespace Cr
open PySem PySem.Spec PyProof.Rows L2 Evl
structure MkN (P : Program) (w : World) (K : PySem.W.Frag) (mg : Str → Option Value) (base : Heap) (k : Nat) (C : Addr) : Prop where
  ex : ∃ f fd, Mk K C f ∧ FnOk P w K mg base CX0 k f fd ["self"] (spNInit C) ∧ Binds K fd ["self"] []
/-- the pairs stay where only dicts and lists of texts change -/
theorem pairs_keep {p lp : Addr} {H H' : Hp} {ps : List Pr} {l : List Addr} (h : Dt (wo p H) (.ref lp) (.list (ps.map pD))) (b : But l H H') (hl : ∀ a ∈ l, (∃ kvs, H a = some (.dK kvs)) ∨ ∃ ts : List Str, ts ≠ [] ∧ H a = some (.lst (ts.map V.str))) : Dt (wo p H') (.ref lp) (.list (ps.map pD)) := by
  obtain ⟨_, xs, e', hx, hd⟩ := dt_lst h
  cases e'
  obtain ⟨n1, hx1⟩ := wo_some hx
  have tup : ∀ {T : Addr} {ys : List V}, wo p H T = some (.tup ys) → wo p H' T = some (.tup ys) := fun {T ys} hT => by
    obtain ⟨n, hT⟩ := wo_some hT
    rw [wo_ne n]
    refine b T _ (fun m => ?_) hT
    rcases hl T m with ⟨kvs, z⟩ | ⟨ts, _, z⟩
    · rw [hT] at z; cases z
    · rw [hT] at z; cases z
  have all : ∀ {xs : List V} {qs : List Pr}, DtAll (wo p H) xs (qs.map pD) → DtAll (wo p H') xs (qs.map pD) := by
    intro xs qs
    induction qs generalizing xs with
    | nil => intro h; cases h; exact .nil
    | cons q r ih =>
      intro h
      cases h with
      | cons h1 h2 =>
        obtain ⟨T, rfl, hT⟩ := pD_refB h1
        exact .cons (.tup (tup hT) (.cons (.str _) (.cons (.str _) .nil))) (ih h2)
  refine .lst ?_ (all hd)
  rw [wo_ne n1]
  refine b lp _ (fun m => ?_) hx1
  rcases hl lp m with ⟨kvs, z⟩ | ⟨ts, ne, z⟩
  · rw [hx1] at z; cases z
  · rw [hx1] at z
    have ez : xs = ts.map V.str := by
      have := Option.some.inj z
      injection this
    cases ts with
    | nil => exact ne rfl
    | cons t r =>
      rw [ez, List.map_cons] at hd
      cases ps with
      | nil => cases hd
      | cons q r' =>
        rw [List.map_cons] at hd
        cases hd with
        | cons h1 _ => cases h1
theorem tups_keep {p : Addr} {H H' : Hp} (tup : ∀ {T : Addr} {ys : List V}, wo p H T = some (.tup ys) → wo p H' T = some (.tup ys)) : ∀ {xs : List V} {qs : List Pr}, DtAll (wo p H) xs (qs.map pD) → DtAll (wo p H') xs (qs.map pD) := by
  intro xs qs
  induction qs generalizing xs with
  | nil => intro h; cases h; exact .nil
  | cons q r ih =>
    intro h
    cases h with
    | cons h1 h2 =>
      obtain ⟨T, rfl, hT⟩ := pD_refB h1
      exact .cons (.tup (tup hT) (.cons (.str _) (.cons (.str _) .nil))) (ih h2)
theorem row_ne {p lp a : Addr} {H : Hp} {ps : List Pr} {ts : List Str} (h : Dt (wo p H) (.ref lp) (.list (ps.map pD))) (ne : ts ≠ []) (ha : H a = some (.lst (ts.map V.str))) : a ≠ lp := fun e => by
  obtain ⟨_, xs, e', hx, hd⟩ := dt_lst h
  cases e'
  obtain ⟨_, hx1⟩ := wo_some hx
  rw [e, hx1] at ha
  have ez : xs = ts.map V.str := by
    have := Option.some.inj ha
    injection this
  cases ts with
  | nil => exact ne rfl
  | cons t r =>
    rw [ez, List.map_cons] at hd
    cases ps with
    | nil => cases hd
    | cons q r' =>
      rw [List.map_cons] at hd
      cases hd with
      | cons h1 _ => cases h1
/-- the law's graph beside its pairs -/
structure Kp (C : Addr) (HB H : Hp) (p x lp : Addr) (A : NdA) (g : List Row) (ns : List Str) (ps : List Pr) : Prop where
  ng : NewG C HB H x A ns g
  dr : Drew p HB H
  hp : Dt (wo p H) (.ref lp) (.list (ps.map pD))
  dis : ps.Nodup
  hm : ∀ q : Pr, q.2 ∈ tgS g q.1 ↔ q ∈ ps
  zl : HB lp = none
section
variable {C : Addr} {HB H H' : Hp} {p x lp : Addr} {A : NdA} {g g' : List Row} {ns : List Str} {ps : List Pr}
theorem Kp.drew (h : Kp C HB H p x lp A g ns ps) (r : Drew p H H') : Kp C HB H' p x lp A g ns ps := ⟨h.ng.drew r h.dr.pot, h.dr.trans r, r.dt h.hp, h.dis, h.hm, h.zl⟩
theorem Kp.ex (h : Kp C HB H p x lp A g ns ps) (e : Ex H H') : Kp C HB H' p x lp A g ns ps := h.drew (Drew.of h.dr.pot e)
theorem Kp.few (h : Kp C HB H p x lp A g ns ps) (l8 : ns.length ≤ 8) : ps.length ≤ 500 := by
  have e := prs_srt h.ng.nd.ok h.dis h.hm
  have le : (prs g).length = ps.length := by rw [← e]; exact (srtP_perm ps).length_eq
  have s1 : (srcs g).length ≤ 8 := by
    have := nodup_len (ws := srcs g) (us := ns) (rise_nodup (srcs_lt h.ng.nd.ok)) fun y hy => by
      obtain ⟨r, hr, rfl⟩ := (mem_srcs (U := ns)).mp hy
      exact h.ng.nd.ok.nm r hr
    omega
  have fl := flat_len (f := tgS g) (ss := srcs g) fun s _ => h.ng.nd.ok.fewT s
  have e2 : prs g = (srcs g).flatMap fun s => (tgS g s).map fun t => ((s, t) : Pr) := rfl
  rw [← e2, le] at fl
  omega
/-- a change of the graph -/
theorem chg3 {l : List Addr} (ng : NewG C HB H x A ns g) (dr : Drew p HB H) (hp : Dt (wo p H) (.ref lp) (.list (ps.map pD))) (pot : Pot HB p) (b : But l H H') (hl : ∀ a ∈ l, a = A.dd ∨ ∃ r ∈ g, a = r.a) (nd : NdAt C H' x A ns g') (fr : ∀ r ∈ g', (∃ r0 ∈ g, r.a = r0.a) ∨ H r.a = none) : NewG C HB H' x A ns g' ∧ Drew p HB H' ∧ Dt (wo p H') (.ref lp) (.list (ps.map pD)) := by
  refine ⟨⟨nd, ng.zx, ng.zd, fun r hr => ?_⟩, drew_but dr pot b fun a ha => ?_, pairs_keep hp b fun a ha => ?_⟩
  · rcases fr r hr with ⟨r0, h0, e0⟩ | z
    · rw [e0]; exact ng.za r0 h0
    · exact fresh_drew dr pot z
  · rcases hl a ha with rfl | ⟨r, hr, rfl⟩
    · exact ng.zd
    · exact ng.za r hr
  · rcases hl a ha with rfl | ⟨r, hr, rfl⟩
    · exact .inl ⟨_, ng.nd.di⟩
    · exact .inr ⟨r.ts, ng.nd.ok.ne r hr, ng.nd.ls r hr⟩
theorem Kp.chg {l : List Addr} (h : Kp C HB H p x lp A g ns ps) (pot : Pot HB p) (b : But l H H') (hl : ∀ a ∈ l, a = A.dd ∨ ∃ r ∈ g, a = r.a) (nd : NdAt C H' x A ns g') (fr : ∀ r ∈ g', (∃ r0 ∈ g, r.a = r0.a) ∨ H r.a = none) : NewG C HB H' x A ns g' ∧ Drew p HB H' ∧ Dt (wo p H') (.ref lp) (.list (ps.map pD)) := chg3 h.ng h.dr h.hp pot b hl nd fr
end
/-- the list of the pairs changed in place -/
theorem put3 {C : Addr} {HB H : Hp} {p x lp : Addr} {A : NdA} {g : List Row} {ns : List Str} {ps ps0 : List Pr} {xs : List V} (ng : NewG C HB H x A ns g) (dr : Drew p HB H) (hp : Dt (wo p H) (.ref lp) (.list (ps0.map pD))) (zl : HB lp = none) (hd : DtAll (wo p H) xs (ps.map pD)) : NewG C HB (upd H lp (.lst xs)) x A ns g ∧ Drew p HB (upd H lp (.lst xs)) ∧ Dt (wo p (upd H lp (.lst xs))) (.ref lp) (.list (ps.map pD)) := by
  obtain ⟨_, ys, e', hx, hy⟩ := dt_lst hp
  cases e'
  obtain ⟨nl, hx1⟩ := wo_some hx
  have bu : But [lp] H (upd H lp (.lst xs)) := fun a o n z => by rw [upd_ne (fun e => n (List.mem_singleton.mpr e))]; exact z
  refine ⟨⟨ng.nd.but bu (fun m => ?_) (fun m => ?_) fun r hr m => ?_, ng.zx, ng.zd, ng.za⟩, dr.mut zl nl, .lst (by rw [wo_ne nl, upd_same]) (tups_keep (fun {T zs} hT => ?_) hd)⟩
  · have z := ng.nd.ob; rw [List.mem_singleton.mp m, hx1] at z; cases z
  · have z := ng.nd.di; rw [List.mem_singleton.mp m, hx1] at z; cases z
  · exact row_ne hp (ng.nd.ok.ne r hr) (ng.nd.ls r hr) (List.mem_singleton.mp m)
  · obtain ⟨n, hT⟩ := wo_some hT
    rw [wo_ne n, upd_ne (fun e => by rw [e, hx1] at hT; cases hT)]
    exact hT
theorem Kp.put {C : Addr} {HB H : Hp} {p x lp : Addr} {A : NdA} {g : List Row} {ns : List Str} {ps ps0 : List Pr} {xs : List V} (ng : NewG C HB H x A ns g) (dr : Drew p HB H) (pot : Pot HB p) (hp : Dt (wo p H) (.ref lp) (.list (ps0.map pD))) (zl : HB lp = none) (hd : DtAll (wo p H) xs (ps.map pD)) (dis : ps.Nodup) (hm : ∀ q : Pr, q.2 ∈ tgS g q.1 ↔ q ∈ ps) : Kp C HB (upd H lp (.lst xs)) p x lp A g ns ps := by
  obtain ⟨a, b, c⟩ := put3 ng dr hp zl hd
  exact ⟨a, b, c, dis, hm, zl⟩
end Cr
/-! registries: the program's defs, gathered -/
namespace Cr
open PySem PySem.Spec PyProof.Rows L2 Evl
/-- the staticmethod is_state, reached through an instance, and the class's list of states -/
def SmK (K : PySem.W.Frag) (C aT : Addr) : Prop := ∃ (p g : Addr) (od an : Option Addr) (sl : Array (Option Value)) (oc kV dc pm cd ct : Value) (rest : List Value),
  PySem.W.plainGet K C Str.empty = true ∧ PySem.W.isClsIn K C = true ∧ PySem.W.findIn K (.ref C) "is_state" = some (some (.ref p)) ∧ PySem.W.typeIn K (.ref p) = some (.type "staticmethod") ∧
  PySem.W.specialIn K (.ref p) "__get__" = some (some (.builtin "staticmethod.__get__")) ∧ PySem.W.takesIn K (.ref p) = some false ∧ PySem.W.recIn K p "staticmethod" = some (.ref g :: rest) ∧
  K.lookup g = some ⟨oc, od, .func (PySem.W.fnOf "is_state" "Registry.is_state" (defArgs sRIs) (defBody sRIs) (defScope sRIs) .none kV dc pm an cd ct), sl⟩ ∧ PySem.W.codeIn K cd "Registry.is_state" = true ∧ PySem.W.keepIn K (.ref g) = true ∧
  PySem.W.readsIn K C (.type "type") = true ∧ PySem.W.specialIn K (.ref C) "__getattribute__" = some (some (.builtin "type.__getattribute__")) ∧ PySem.W.findCls K (.ref C) (.type "type") "STATES" = some (.val (.ref aT))
theorem smK {K : PySem.W.Frag} {C aT p g : Addr} {od an : Option Addr} {sl : Array (Option Value)} {oc kV dc pm cd ct : Value} {rest : List Value} (a : PySem.W.plainGet K C Str.empty = true) (b : PySem.W.isClsIn K C = true) (c : PySem.W.findIn K (.ref C) "is_state" = some (some (.ref p))) (d : PySem.W.typeIn K (.ref p) = some (.type "staticmethod"))
    (e : PySem.W.specialIn K (.ref p) "__get__" = some (some (.builtin "staticmethod.__get__"))) (f : PySem.W.takesIn K (.ref p) = some false) (r : PySem.W.recIn K p "staticmethod" = some (.ref g :: rest))
    (l : K.lookup g = some ⟨oc, od, .func (PySem.W.fnOf "is_state" "Registry.is_state" (defArgs sRIs) (defBody sRIs) (defScope sRIs) .none kV dc pm an cd ct), sl⟩) (i : PySem.W.codeIn K cd "Registry.is_state" = true) (k : PySem.W.keepIn K (.ref g) = true)
    (m : PySem.W.readsIn K C (.type "type") = true) (n : PySem.W.specialIn K (.ref C) "__getattribute__" = some (some (.builtin "type.__getattribute__"))) (o : PySem.W.findCls K (.ref C) (.type "type") "STATES" = some (.val (.ref aT))) : SmK K C aT :=
  ⟨p, g, od, an, sl, oc, kV, dc, pm, cd, ct, rest, a, b, c, d, e, f, r, l, i, k, m, n, o⟩
theorem ktup5 {K : PySem.W.Frag} {a : Addr} {x1 x2 x3 x4 x5 : Str} {t1 t2 t3 t4 t5 : Tok} {dd : Option Addr} {sl : Array (Option Value)} {n : Nat} (l : K.lookup a = some ⟨.type "tuple", dd, .seq #[.str x1 t1, .str x2 t2, .str x3 t3, .str x4 t4, .str x5 t5] n, sl⟩) : KTup K a (([x1, x2, x3, x4, x5] : List Str).map V.str) :=
  ktupV (xs := ([x1, x2, x3, x4, x5] : List Str)) l (.cons ⟨t1, rfl⟩ (.cons ⟨t2, rfl⟩ (.cons ⟨t3, rfl⟩ (.cons ⟨t4, rfl⟩ (.cons ⟨t5, rfl⟩ .nil))))) (by show 5 ≤ 10; decide)
/-- what a law uses of the program: C Registry, CG Needs, the errors CNm InvalidName, CNo NoNeed, CW WrongState, CM MustWait -/
structure RgHas (P : Program) (w : World) (K : PySem.W.Frag) (mg : Str → Option Value) (base : Heap) (C CG CNm CNo CW CM : Addr) : Prop where
  T : RgC K mg C
  N : NdC K mg CG
  nm : HasO P w K mg base 1 "is_name" ["value"] (spD isName)
  bw : HasO P w K mg base 1 "bare_word" ["word"] spBareW
  int : HasO P w K mg base 1 "is_integer" ["value"] (spD isInteger)
  chn : HasE P w K mg base 6 "check_name" ["value"] (spCheckN CNm 3)
  nmk : ∀ j, MkN P w K mg base (j + 1) CG
  nrec : HasM P w K mg base (L2.CX P w) 7 CG "record" ["self", "source", "target"] (spRecord CG CNm 3)
  npr : HasM P w K mg base CX0 1 CG "pairs" ["self"] (spPairs CG)
  nda : HasM P w K mg base CX0 3 CG "delete_all" ["self", "source"] (spDelAll CG)
  nis : HasM P w K mg base CX0 3 CG "is_need" ["self", "source", "target"] (spIsNeed CG)
  nclo : HasM P w K mg base (L2.CX P w) 7 CG "closure" ["self", "name"] (spClo CG CNm 3)
  ndep : HasM P w K mg base (L2.CX P w) 8 CG "depends" ["self", "one", "other"] (spDep CG CNm 3)
  MW : MkErr P w K mg base 4 CW "WrongState" 2 (spInit2S CW "module" "found")
  kn : HasM P w K mg base CX0 2 C "known" ["self", "value"] (spRKn C CG)
  cs : HasM P w K mg base (L2.CX P w) 6 C "check_state" ["self", "module", "state"] (spRCs C CG CW)
  so : HasM P w K mg base CX0 3 C "state_of" ["self", "module"] (spRSo C CG)
  ins : HasM P w K mg base CX0 2 C "in_state" ["self", "state"] (spRIn C CG)
  rq : HasM P w K mg base (L2.CX P w) 8 C "request" ["self", "source", "target"] (spRRq C CG CW)
  ex : HasM P w K mg base CX0 3 C "exports" ["self", "module"] (spREx C CG)
  xp : HasM P w K mg base (L2.CX P w) 7 C "export" ["self", "module", "name", "value"] (spRXp C CG CW)
  fi : HasM P w K mg base (L2.CX P w) 9 C "finish" ["self", "module"] (spRFi C CG CW)
  ne : HasM P w K mg base CX0 4 C "needs" ["self"] (spRNe C CG)
  new : ∃ fL dL, Mk K C fL ∧ FnOk P w K mg base CX0 3 fL dL ["self", "names"] (spRNew C CG) ∧ Binds K dL ["self", "names"] []
theorem rg_mk {P : Program} {w : World} {K : PySem.W.Frag} {mg : Str → Option Value} {h : Heap} {C CG CNm CNo CW CM aT : Addr} {tL tM : Tok} (X : K.In h) (G : h.Ns mainGlobals mg) (B : Blt mg)
    (v1 : PySem.W.nsIn K mainGlobals "LONGEST_NAME" = some (some (.int 8 tL))) (v8 : PySem.W.nsIn K mainGlobals "MOST_MODULES" = some (some (.int 40 tM)))
    (c0 : PySem.W.nsIn K mainGlobals "InvalidName" = some (some (.ref CNm))) (e0 : ErrK P K CNm xbV "InvalidName.__init__" "value" sIInvalidName)
    (c2 : PySem.W.nsIn K mainGlobals "WrongState" = some (some (.ref CW))) (e2 : ErrK P K CW xbR "WrongState.__init__" "module" sIWrongState) (s2 : PySem.W.findIn K (.ref CW) "found" = some none)
    (cG : PySem.W.nsIn K mainGlobals "Needs" = some (some (.ref CG))) (kG : Cls K CG) (mG : PySem.W.makesIn K CG = true) (pG : PySem.W.keepIn K (.ref CG) = true) (nN : NoAttr K CG "needed")
    (cR : PySem.W.nsIn K mainGlobals "Registry" = some (some (.ref C))) (kR : Cls K C) (mR : PySem.W.makesIn K C = true) (pR : PySem.W.keepIn K (.ref C) = true) (n1 : NoAttr K C "states") (n2 : NoAttr K C "exported") (n3 : NoAttr K C "chains") (n4 : NoAttr K C "held") (n5 : NoAttr K C "graph") (n6 : NoAttr K C "graph_ever") (n7 : NoAttr K C "accesses")
    (dName : DefAt K "is_name" sIsName) (dBW : DefAt K "bare_word" sBareW)
    (dInt : DefAt K "is_integer" sIsInteger)
    (dCop : DefAt K "copied" sCopied) (dChk : DefAt K "check_name" sCheckN) (dCM : DefAt K "check_modules" sChkMo)
    (mI : MethAt K CG "__init__" "Needs.__init__" sNInit) (mT : MethAt K CG "targets" "Needs.targets" sNTarg) (mN : MethAt K CG "is_need" "Needs.is_need" sNIs) (mRe : MethAt K CG "record" "Needs.record" sNRec) (mDA : MethAt K CG "delete_all" "Needs.delete_all" sNDelA)
    
    (mSh : MethAt K CG "shortest_paths" "Needs.shortest_paths" sNSh) (mCl : MethAt K CG "closure" "Needs.closure" sNClo) (mDe : MethAt K CG "depends" "Needs.depends" sNDep) (mPa : MethAt K CG "pairs" "Needs.pairs" sNPairs) (mCo : MethAt K CG "clone" "Needs.clone" sNClone)
    (r0 : MethAt K C "__init__" "Registry.__init__" sRNew) (sm : SmK K C aT) (t5 : KTup K aT (states5.map V.str)) (r1 : MethAt K C "known" "Registry.known" sRKn) (r2 : MethAt K C "check_state" "Registry.check_state" sRCs)
    (r3 : MethAt K C "state_of" "Registry.state_of" sRSo)
    (r4 : MethAt K C "in_state" "Registry.in_state" sRIn) 
    (r5 : MethAt K C "check_request" "Registry.check_request" sRCr) (r6 : MethAt K C "request" "Registry.request" sRRq)
    
    (r9 : MethAt K C "export" "Registry.export" sRXp)
    (rA : MethAt K C "exports" "Registry.exports" sREx)
    (rB : MethAt K C "is_complete" "Registry.is_complete" sRIc) (rC : MethAt K C "finish" "Registry.finish" sRFi)
    (rE : MethAt K C "needs" "Registry.needs" sRNe)
    (base : Heap) : RgHas P w K mg base C CG CNm CNo CW CM := by
  have gL := PySem.W.mg_of X G v1
  have gM := PySem.W.mg_of X G v8
  have TN : NdC K mg CG := ⟨kG, nN, PySem.W.mg_of X G cG⟩
  have T : RgC K mg C := ⟨kR, n1, n2, n3, n4, n5, n6, n7, PySem.W.mg_of X G cR⟩
  have cp : HasO P w K mg base 3 "copied" ["value"] (spCopied 3) := copied_all X G dCop B 3
  obtain ⟨f0, fd0, E0'⟩ := errAt_of (mg := mg) X G c0 e0
  have MN : MkErr P w K mg base 4 CNm "InvalidName" 1 (spInitC CNm "value" 3) := mkErr_of E0' rfl (ok_iInvalidName E0' B cp) (fun _ _ _ _ _ _ _ us hl => match us, hl with | [_, _], _ => rfl)
  obtain ⟨f2, fd2, E2'⟩ := errAt_of (mg := mg) X G c2 e2
  have MW : MkErr P w K mg base 4 CW "WrongState" 2 (spInit2S CW "module" "found") := mkErr_of E2' rfl (ok_iWrongState (k := 3) E2' s2 B) (fun _ _ _ _ _ _ _ us hl => match us, hl with | [_, _, _], _ => rfl)
  have hName : HasO P w K mg base 1 "is_name" ["value"] (spD isName) := hasO_mk X G dName (fun _ _ _ _ _ _ us hl => match us, hl with | [_], _ => rfl) fun f fd F => ok_isName F B gL
  have hBW : HasO P w K mg base 1 "bare_word" ["word"] spBareW := hasO_mk X G dBW (fun _ _ _ _ _ _ us hl => match us, hl with | [_], _ => rfl) fun f fd F => ok_bareW F
  have hInt : HasO P w K mg base 1 "is_integer" ["value"] (spD isInteger) := hasO_mk X G dInt (fun _ _ _ _ _ _ us hl => match us, hl with | [_], _ => rfl) fun f fd F => ok_isInteger F B
  have hChk : HasE P w K mg base 6 "check_name" ["value"] (spCheckN CNm 3) := hasE_mk X G dChk (fun _ _ _ _ _ _ us hl => match us, hl with | [_], _ => rfl) fun f fd F => ok_checkN (j := 4) F (by decide) MN (hName.up (by decide))
  have hT : HasM P w K mg base CX0 2 CG "targets" ["self", "name"] (spTargets CG) := hasM_mk mT (fun _ _ _ _ _ _ us hl => match us, hl with | [_, _], _ => rfl) fun f fd F => ok_targets F B TN hName
  have hN : HasM P w K mg base CX0 3 CG "is_need" ["self", "source", "target"] (spIsNeed CG) := hasM_mk mN (fun _ _ _ _ _ _ us hl => match us, hl with | [_, _, _], _ => rfl) fun f fd F => ok_isNeed F TN (hName.up (by decide)) hT
  have hR : HasM P w K mg base (L2.CX P w) 7 CG "record" ["self", "source", "target"] (spRecord CG CNm 3) := hasM_mk mRe (fun _ _ _ _ _ _ us hl => match us, hl with | [_, _, _], _ => rfl) fun f fd F => ok_record F B TN hChk (hBW.up (by decide)) (hT.up (by decide)) (hN.up (by decide))
  have hA : HasM P w K mg base CX0 3 CG "delete_all" ["self", "source"] (spDelAll CG) := hasM_mk mDA (fun _ _ _ _ _ _ us hl => match us, hl with | [_, _], _ => rfl) fun f fd F => ok_delAll F B TN hT
  have hMk : ∀ j, MkN P w K mg base (j + 1) CG := fun j => by
    obtain ⟨f, od, an, sl, oc, kV, dc, pm, cd, ct, a, i, l, c, kp, t⟩ := mI
    have F := fun_mk (st := sNInit) l c kp
    exact ⟨⟨f, _, ⟨mG, a, i, pG⟩, ok_ninit (k := j) F TN, F.binds (fun _ _ _ _ _ _ us hl => match us, hl with | [_], _ => rfl)⟩⟩
  have hSh : HasM P w K mg base CX0 3 CG "shortest_paths" ["self", "name"] (spShort CG) := hasM_mk mSh (fun _ _ _ _ _ _ us hl => match us, hl with | [_, _], _ => rfl) fun f fd F => ok_short F B TN (hBW.up (by decide)) hT
  have hCl : HasM P w K mg base (L2.CX P w) 7 CG "closure" ["self", "name"] (spClo CG CNm 3) := hasM_mk mCl (fun _ _ _ _ _ _ us hl => match us, hl with | [_, _], _ => rfl) fun f fd F => ok_clo F B TN hChk (hSh.up (by decide))
  have hDe : HasM P w K mg base (L2.CX P w) 8 CG "depends" ["self", "one", "other"] (spDep CG CNm 3) := hasM_mk mDe (fun _ _ _ _ _ _ us hl => match us, hl with | [_, _, _], _ => rfl) fun f fd F => ok_dep F B TN (hChk.up (by decide)) hCl
  have hP : HasM P w K mg base CX0 1 CG "pairs" ["self"] (spPairs CG) := hasM_mk mPa (fun _ _ _ _ _ _ us hl => match us, hl with | [_], _ => rfl) fun f fd F => ok_pairs F B TN
  have hCo : HasM P w K mg base CX0 3 CG "clone" ["self"] (spClone CG) := hasM_mk mCo (fun _ _ _ _ _ _ us hl => match us, hl with | [_], _ => rfl) fun f fd F => ok_clone (k := 2) F B TN (by decide) (hMk 0).ex
  -- the registry
  have hKn : HasM P w K mg base CX0 2 C "known" ["self", "value"] (spRKn C CG) := hasM_mk r1 (fun _ _ _ _ _ _ us hl => match us, hl with | [_, _], _ => rfl) fun f fd F => ok_rkn F T hName hBW
  have hCs : HasM P w K mg base (L2.CX P w) 6 C "check_state" ["self", "module", "state"] (spRCs C CG CW) := hasM_mk r2 (fun _ _ _ _ _ _ us hl => match us, hl with | [_, _, _], _ => rfl) fun f fd F => ok_rcs (n := 4) F T MW (by decide)
  have hSo : HasM P w K mg base CX0 3 C "state_of" ["self", "module"] (spRSo C CG) := hasM_mk r3 (fun _ _ _ _ _ _ us hl => match us, hl with | [_, _], _ => rfl) fun f fd F => ok_rso F T hKn
  have hIn : HasM P w K mg base CX0 2 C "in_state" ["self", "state"] (spRIn C CG) := hasM_mk r4 (fun _ _ _ _ _ _ us hl => match us, hl with | [_, _], _ => rfl) fun f fd F => by
    obtain ⟨p, g, od, an, sl, oc, kV, dc, pm, cd, ct, rest, a, b, c, d, e, f', r, l, i, k, m, n, o⟩ := sm
    have FS := fun_mk (st := sRIs) l i k
    exact ok_rin F T ⟨a, b, c, d, e, f', by decide +kernel, ⟨_, r⟩, k⟩ (ok_ris (k := 0) FS B T ⟨m, n⟩ ⟨o, rfl⟩ t5) (FS.binds (fun _ _ _ _ _ _ us hl => match us, hl with | [_], _ => rfl))
  have hCr : HasM P w K mg base (L2.CX P w) 7 C "check_request" ["self", "source", "target"] (spRCr C CG CW) := hasM_mk r5 (fun _ _ _ _ _ _ us hl => match us, hl with | [_, _, _], _ => rfl) fun f fd F => ok_rcr F T (hKn.up (by decide)) hCs
  have hRq : HasM P w K mg base (L2.CX P w) 8 C "request" ["self", "source", "target"] (spRRq C CG CW) := hasM_mk r6 (fun _ _ _ _ _ _ us hl => match us, hl with | [_, _, _], _ => rfl) fun f fd F => ok_rrq F T TN (by decide) hCr hR
  have hIc : HasM P w K mg base CX0 8 C "is_complete" ["self", "module"] (spRIc C CG) := hasM_mk rB (fun _ _ _ _ _ _ us hl => match us, hl with | [_, _], _ => rfl) fun f fd F => ok_ric F B T TN (by decide) hCl
  have hEx : HasM P w K mg base CX0 3 C "exports" ["self", "module"] (spREx C CG) := hasM_mk rA (fun _ _ _ _ _ _ us hl => match us, hl with | [_, _], _ => rfl) fun f fd F => ok_rex F B T hKn
  have hXp : HasM P w K mg base (L2.CX P w) 7 C "export" ["self", "module", "name", "value"] (spRXp C CG CW) := hasM_mk r9 (fun _ _ _ _ _ _ us hl => match us, hl with | [_, _, _, _], _ => rfl) fun f fd F => ok_rxp F B T (by decide) (hKn.up (by decide)) hCs hChk (hInt.up (by decide)) (hBW.up (by decide))
  have hFi : HasM P w K mg base (L2.CX P w) 9 C "finish" ["self", "module"] (spRFi C CG CW) := hasM_mk rC (fun _ _ _ _ _ _ us hl => match us, hl with | [_, _], _ => rfl) fun f fd F => ok_rfi (n := 3) F T TN (hKn.up (by decide)) (hCs.up (by decide)) (hIn.up (by decide)) hIc (hA.up (by decide))
  have hNe : HasM P w K mg base CX0 4 C "needs" ["self"] (spRNe C CG) := hasM_mk rE (fun _ _ _ _ _ _ us hl => match us, hl with | [_], _ => rfl) fun f fd F => ok_rne F T TN hCo
  have hCM : HasO P w K mg base 2 "check_modules" ["value"] spChkMo := hasO_mk X G dCM (fun _ _ _ _ _ _ us hl => match us, hl with | [_], _ => rfl) fun f fd F => ok_chkMo F B gM hName
  have hNew : ∃ fL dL, Mk K C fL ∧ FnOk P w K mg base CX0 3 fL dL ["self", "names"] (spRNew C CG) ∧ Binds K dL ["self", "names"] [] := by
    obtain ⟨f, od, an, sl, oc, kV, dc, pm, cd, ct, a, i, l, c, kp, t⟩ := r0
    have F := fun_mk (st := sRNew) l c kp
    obtain ⟨fG, dG, MG, GG, bG⟩ := (hMk 0).ex
    exact ⟨f, _, ⟨mR, a, i, pR⟩, ok_rnew F B T TN hCM (hBW.up (by decide)) MG GG bG (by decide), F.binds (fun _ _ _ _ _ _ us hl => match us, hl with | [_, _], _ => rfl)⟩
  exact {
    T := T
    N := TN
    nm := hName
    bw := hBW
    int := hInt
    chn := hChk
    nmk := hMk
    nrec := hR
    npr := hP
    nda := hA
    nis := hN
    nclo := hCl
    ndep := hDe
    MW := MW
    kn := hKn
    cs := hCs
    so := hSo
    ins := hIn
    rq := hRq
    ex := hEx
    xp := hXp
    fi := hFi
    ne := hNe
    new := hNew
  }
end Cr
/-! how failures spread (pure) -/
namespace Cr
open PySem PySem.Spec PyProof.Rows L2 Evl
def nxF (U : List Str) (e : Str → Str → Bool) (F C : List Str) : List Str := U.filter fun s => C.any (e s) && !decide (s ∈ F)
def parF (e : Str → Str → Bool) (C : List Str) (s : Str) : Str := ((srtS C).find? (e s)).getD ""
structure FalS where
  F : List Str
  C : List Str
  k : Str → Option (List Str)
def stepF (U : List Str) (e : Str → Str → Bool) (S : FalS) : FalS := ⟨S.F ++ nxF U e S.F S.C, nxF U e S.F S.C, fun y => if y ∈ nxF U e S.F S.C then some (y :: (S.k (parF e S.C y)).getD []) else S.k y⟩
def runF (U : List Str) (e : Str → Str → Bool) (m : Str) (c0 : List Str) : Nat → FalS
  | 0 => ⟨[m], [m], fun y => if y = m then some c0 else none⟩
  | n + 1 => stepF U e (runF U e m c0 n)
/-- the modules that fail, and their chains -/
def fallS (U : List Str) (e : Str → Str → Bool) (m : Str) (c0 : List Str) : FalS := runF U e m c0 U.length
theorem mem_nxF {U F C : List Str} {e : Str → Str → Bool} {s : Str} : s ∈ nxF U e F C ↔ (s ∈ U ∧ (∃ t ∈ C, e s t = true) ∧ s ∉ F) := by
  unfold nxF
  rw [List.mem_filter, Bool.and_eq_true, List.any_eq_true, Bool.not_eq_true', decide_eq_false_iff_not]
theorem nxF_nil {U F : List Str} {e : Str → Str → Bool} : nxF U e F [] = [] := List.filter_eq_nil_iff.mpr fun s _ => by simp
theorem step_end {U : List Str} {e : Str → Str → Bool} {S : FalS} (h : S.C = []) : stepF U e S = S := by
  obtain ⟨F, C, k⟩ := S
  have h' : C = [] := h
  subst h'
  unfold stepF
  rw [nxF_nil, List.append_nil]
  rfl
section
variable {U : List Str} {e : Str → Str → Bool} {m : Str} {c0 : List Str}
theorem fal_end {i : Nat} (h : (runF U e m c0 i).C = []) : ∀ j, runF U e m c0 (i + j) = runF U e m c0 i
  | 0 => rfl
  | j + 1 => by
    show stepF U e (runF U e m c0 (i + j)) = _
    rw [fal_end h j, step_end h]
theorem fall_is {i : Nat} (h : (runF U e m c0 i).C = []) (hi : i ≤ U.length) : fallS U e m c0 = runF U e m c0 i := by
  unfold fallS
  have z := fal_end h (U.length - i)
  rw [show i + (U.length - i) = U.length by omega] at z
  exact z
theorem fal_in (hm : m ∈ U) : ∀ i, ∀ y ∈ (runF U e m c0 i).F, y ∈ U
  | 0, y, hy => by rw [List.mem_singleton.mp hy]; exact hm
  | i + 1, y, hy => by
    rcases List.mem_append.mp hy with z | z
    · exact fal_in hm i y z
    · exact (mem_nxF.mp z).1
theorem fal_nd (hn : U.Nodup) : ∀ i, (runF U e m c0 i).F.Nodup ∧ (runF U e m c0 i).C.Nodup
  | 0 => ⟨nodup_oneF, nodup_oneF⟩
  | i + 1 => by
    have z : (nxF U e (runF U e m c0 i).F (runF U e m c0 i).C).Nodup := hn.sublist List.filter_sublist
    refine ⟨?_, z⟩
    show ((runF U e m c0 i).F ++ nxF U e (runF U e m c0 i).F (runF U e m c0 i).C).Nodup
    rw [List.nodup_append]
    refine ⟨(fal_nd hn i).1, z, fun a ha b hb eq => ?_⟩
    rw [← eq] at hb
    exact (mem_nxF.mp hb).2.2 ha
where nodup_oneF : [m].Nodup := List.nodup_cons.mpr ⟨(fun z => nomatch z), List.nodup_nil⟩
theorem fal_sub : ∀ i, ∀ y ∈ (runF U e m c0 i).C, y ∈ (runF U e m c0 i).F
  | 0, y, hy => hy
  | _ + 1, y, hy => List.mem_append.mpr (.inr hy)
/-- every round but the last finds a module -/
theorem fal_bd : ∀ i, (∀ j < i, (runF U e m c0 j).C ≠ []) → i ≤ (runF U e m c0 i).F.length ∧ ((runF U e m c0 i).C ≠ [] → i + 1 ≤ (runF U e m c0 i).F.length)
  | 0, _ => ⟨Nat.zero_le _, fun _ => Nat.le_refl _⟩
  | i + 1, h => by
    have z := (fal_bd i fun j hj => h j (by omega)).2 (h i (by omega))
    have l : (runF U e m c0 (i + 1)).F.length = (runF U e m c0 i).F.length + (runF U e m c0 (i + 1)).C.length := List.length_append
    refine ⟨by omega, fun c => ?_⟩
    have := List.length_pos_iff.mpr c
    omega
theorem fal_few (hm : m ∈ U) (hn : U.Nodup) {i : Nat} (h : ∀ j < i, (runF U e m c0 j).C ≠ []) : i ≤ U.length :=
  Nat.le_trans (fal_bd i h).1 (pigeon (fal_nd hn i).1 (fal_in hm i))
/-- what was found once keeps its chain -/
theorem fal_keep {i : Nat} {y : Str} (hy : y ∈ (runF U e m c0 i).F) : (runF U e m c0 (i + 1)).k y = (runF U e m c0 i).k y := if_neg fun z => (mem_nxF.mp z).2.2 hy
theorem fal_some : ∀ i, ∀ y ∈ (runF U e m c0 i).F, ∃ c, (runF U e m c0 i).k y = some c
  | 0, y, hy => ⟨c0, if_pos (List.mem_singleton.mp hy)⟩
  | i + 1, y, hy => by
    by_cases z : y ∈ nxF U e (runF U e m c0 i).F (runF U e m c0 i).C
    · exact ⟨_, if_pos z⟩
    · obtain ⟨c, hc⟩ := fal_some i y ((List.mem_append.mp hy).resolve_right z)
      exact ⟨c, (if_neg z).trans hc⟩
end
theorem par_mem {e : Str → Str → Bool} {C : List Str} {s : Str} (h : ∃ t ∈ C, e s t = true) : parF e C s ∈ C ∧ e s (parF e C s) = true := by
  unfold parF
  obtain ⟨t, ht, he⟩ := h
  cases hf : (srtS C).find? (e s) with
  | none => exact absurd he (List.find?_eq_none.mp hf t ((srtS_perm C).mem_iff.mpr ht))
  | some u => exact ⟨(srtS_perm C).mem_iff.mp (List.mem_of_find?_eq_some hf), List.find?_some hf⟩
theorem par_perm {e : Str → Str → Bool} {C D : List Str} {s : Str} (p : C.Perm D) : parF e C s = parF e D s := by
  unfold parF
  rw [srt_uniq ((srtS_perm C).trans p) (srtS_le C)]
end Cr
/-! registries: a module fails -/
namespace Cr
open PySem PySem.Spec PyProof.Rows L2 Evl
theorem putA_ad {α : Type} (ad : Str × α → Addr) {xs : List (Str × α)} {m : Str} {v : α} (kn : (xs.map (·.1)).Nodup) (an : (xs.map ad).Nodup) (nw : ad (m, v) ∉ xs.map ad) : ((putA xs m v).map ad).Nodup := by
  unfold putA
  split
  · rw [List.map_map]
    have k1 : xs.Pairwise fun a b => a.1 ≠ b.1 := List.pairwise_map.mp kn
    have k2 : xs.Pairwise fun a b => ad a ≠ ad b := List.pairwise_map.mp an
    refine List.pairwise_map.mpr ((k1.and k2).imp_of_mem fun {a b} ha hb h => ?_)
    show ad (if a.1 = m then (a.1, v) else a) ≠ ad (if b.1 = m then (b.1, v) else b)
    by_cases ea : a.1 = m
    · have eb : b.1 ≠ m := fun z => h.1 (ea.trans z.symm)
      rw [if_pos ea, if_neg eb, ea]
      exact fun z => nw (by rw [z]; exact List.mem_map_of_mem (f := ad) hb)
    · rw [if_neg ea]
      by_cases eb : b.1 = m
      · rw [if_pos eb, eb]
        exact fun z => nw (by rw [← z]; exact List.mem_map_of_mem (f := ad) ha)
      · rw [if_neg eb]; exact h.2
  · rw [List.map_append, List.nodup_append]
    refine ⟨an, nodup1, fun a ha b hb e => nw ?_⟩
    rw [List.mem_singleton.mp hb] at e
    rw [← e]
    exact ha
where nodup1 : [ad (m, v)].Nodup := List.nodup_cons.mpr ⟨(fun z => nomatch z), List.nodup_nil⟩
section
variable {C CG x : Addr} {HB H H' : Hp} {A : RgA} {U : List Str} {R R' : Rg}
/-- one part changes; new places are told by a word of their own -/
theorem RgAt.chgF {i : Nat} {l : List Addr} {Fr : Addr → Prop} (h : RgAt C CG HB H x A U R) (frN : ∀ a, Fr a → a ∉ ownR A R ∧ HB a = none) (b : But l H H') (hl : ∀ a ∈ l, a ∈ segR A R i) (new : ∀ a ∈ segR A R' i, a ∈ segR A R i ∨ Fr a) (nn' : (segR A R' i).Nodup) (wf' : WfR U R')
    (e0 : i ≠ 0 → R'.st = R.st) (e1 : i ≠ 1 → R'.ex = R.ex) (e2 : i ≠ 2 → R'.ch = R.ch) (e3 : i ≠ 3 → R'.hd = R.hd) (e4 : i ≠ 4 → R'.g = R.g) (e5 : i ≠ 5 → R'.ge = R.ge) (e6 : i ≠ 6 → R'.ga = R.ga)
    (p0 : i = 0 → H' A.aS = some (.dK (kvSt R'.st))) (p1 : i = 1 → H' A.aX = some (.dK (kvX R'.ex)) ∧ ∀ r ∈ R'.ex, H' r.2.1 = some (.dK (kvInt r.2.2))) (p2 : i = 2 → H' A.aC = some (.dK (kvCh R'.ch)) ∧ ∀ r ∈ R'.ch, H' r.2.1 = some (.lst (r.2.2.map V.str)))
    (p3 : i = 3 → H' A.aH = some (.dK (kvHd R'.hd))) (p4 : i = 4 → NdAt CG H' A.gN.x A.gN.a U R'.g) (p5 : i = 5 → NdAt CG H' A.gE.x A.gE.a U R'.ge) (p6 : i = 6 → NdAt CG H' A.gA.x A.gA.a U R'.ga) :
    RgAt C CG HB H' x A U R' ∧ But (ownR A R) H H' ∧ ∀ a ∈ ownR A R', a ∈ ownR A R ∨ Fr a := by
  have same : ∀ j, j ≠ i → segR A R' j = segR A R j := fun j hj => by
    match j, hj with
    | 0, _ => rfl
    | 1, hj => show A.aX :: R'.ex.map xAd = _; rw [e1 hj.symm]; rfl
    | 2, hj => show A.aC :: R'.ch.map cAd = _; rw [e2 hj.symm]; rfl
    | 3, _ => rfl
    | 4, hj => show ownG A.gN R'.g = _; rw [e4 hj.symm]; rfl
    | 5, hj => show ownG A.gE R'.ge = _; rw [e5 hj.symm]; rfl
    | 6, hj => show ownG A.gA R'.ga = _; rw [e6 hj.symm]; rfl
    | n + 7, _ => rfl
  have nw : ∀ a ∈ ownR A R', a ∈ ownR A R ∨ Fr a := fun a ha => by
    obtain ⟨j, hj⟩ := mem_ownR.mp ha
    by_cases e : j = i
    · subst e
      exact (new a hj).imp (fun z => mem_ownR.mpr ⟨j, z⟩) id
    · rw [same j e] at hj
      exact .inl (mem_ownR.mpr ⟨j, hj⟩)
  have one : ∀ {k : Nat} {a : Addr}, k ≠ i → a ∈ segR A R' i → a ∈ segR A R' k → False := fun {k a} ne h1 h2 => by
    rw [same k ne] at h2
    rcases new a h1 with z | z
    · exact ne (h.nd k i a h2 z)
    · exact (frN a z).1 (mem_ownR.mpr ⟨k, h2⟩)
  have nd' : ∀ j k a, a ∈ segR A R' j → a ∈ segR A R' k → j = k := fun j k a h1 h2 => by
    by_cases e1 : j = i
    · subst e1
      by_cases e2 : k = j
      · exact e2.symm
      · exact (one e2 h1 h2).elim
    · by_cases e2 : k = i
      · subst e2
        exact (one e1 h2 h1).elim
      · rw [same j e1] at h1
        rw [same k e2] at h2
        exact h.nd j k a h1 h2
  refine ⟨⟨b _ _ (h.off_ins hl h.ob) h.ob, ?_, ?_, ?_, ?_, ?_, ?_, ?_, ?_, ?_, nd', fun j => ?_, fun a ha => (nw a ha).elim (h.nb a) fun z => (frN a z).2, seg_bx h b hl, wf'⟩, b.mono fun a ha => mem_ownR.mpr ⟨i, hl a ha⟩, nw⟩
  · by_cases e : i = 0
    · exact p0 e
    · rw [e0 e]
      exact b _ _ (h.off hl (j := 0) (fun z => e z.symm) _ (by show A.aS ∈ [A.aS]; simp)) h.hS
  · by_cases e : i = 1
    · exact (p1 e).1
    · rw [e1 e]
      exact b _ _ (h.off hl (j := 1) (fun z => e z.symm) _ List.mem_cons_self) h.hX
  · by_cases e : i = 1
    · exact (p1 e).2
    · rw [e1 e]
      exact fun r hr => b _ _ (h.off hl (j := 1) (fun z => e z.symm) _ (List.mem_cons_of_mem _ (List.mem_map_of_mem (f := xAd) hr))) (h.hXi r hr)
  · by_cases e : i = 2
    · exact (p2 e).1
    · rw [e2 e]
      exact b _ _ (h.off hl (j := 2) (fun z => e z.symm) _ List.mem_cons_self) h.hC
  · by_cases e : i = 2
    · exact (p2 e).2
    · rw [e2 e]
      exact fun r hr => b _ _ (h.off hl (j := 2) (fun z => e z.symm) _ (List.mem_cons_of_mem _ (List.mem_map_of_mem (f := cAd) hr))) (h.hCi r hr)
  · by_cases e : i = 3
    · exact p3 e
    · rw [e3 e]
      exact b _ _ (h.off hl (j := 3) (fun z => e z.symm) _ (by show A.aH ∈ [A.aH]; simp)) h.hH
  · by_cases e : i = 4
    · exact p4 e
    · rw [e4 e]
      exact nd_but h.nN b (h.off_ins hl h.nN.ob) (h.off hl (j := 4) fun z => e z.symm)
  · by_cases e : i = 5
    · exact p5 e
    · rw [e5 e]
      exact nd_but h.nE b (h.off_ins hl h.nE.ob) (h.off hl (j := 5) fun z => e z.symm)
  · by_cases e : i = 6
    · exact p6 e
    · rw [e6 e]
      exact nd_but h.nA b (h.off_ins hl h.nA.ob) (h.off hl (j := 6) fun z => e z.symm)
  · by_cases e : j = i
    · rw [e]
      exact nn'
    · rw [same j e]
      exact h.nn j
/-- what a change leaves that puts the list c into the chains -/
def RgToC (C CG : Addr) (HB H H' : Hp) (x : Addr) (A : RgA) (U : List Str) (R R' : Rg) (c : Addr) : Prop := RgAt C CG HB H' x A U R' ∧ But (c :: ownR A R) H H' ∧ ∀ a ∈ ownR A R', a ∈ ownR A R ∨ a = c ∨ H a = none
theorem RgToC.fromTo {c : Addr} {H2 : Hp} {R2 : Rg} (h : RgTo C CG HB H H' x A U R R') (k : RgToC C CG HB H' H2 x A U R' R2 c) : RgToC C CG HB H H2 x A U R R2 c := by
  refine ⟨k.1, fun a o ha ho => ?_, fun a ha => ?_⟩
  · have ha' := fun z => ha (List.mem_cons_of_mem _ z)
    refine k.2.1 a o (fun z => ?_) (h.2.1 a o ha' ho)
    rcases List.mem_cons.mp z with z | z
    · exact ha (by rw [z]; exact List.mem_cons_self)
    · rcases h.2.2 a z with z | z
      · exact ha' z
      · rw [ho] at z; cases z
  · rcases k.2.2 a ha with z | z | z
    · exact (h.2.2 a z).imp id .inr
    · exact .inr (.inl z)
    · by_cases hm : a ∈ ownR A R
      · exact .inl hm
      · refine .inr (.inr ?_)
        cases hh : H a with
        | none => rfl
        | some o =>
          have y := h.2.1 a o hm hh
          rw [z] at y
          cases y
theorem RgToC.thenTo {c : Addr} {H2 : Hp} {R2 : Rg} (h : RgToC C CG HB H H' x A U R R' c) (k : RgTo C CG HB H' H2 x A U R' R2) : RgToC C CG HB H H2 x A U R R2 c := by
  refine ⟨k.1, fun a o ha ho => ?_, fun a ha => ?_⟩
  · refine k.2.1 a o (fun e => ?_) (h.2.1 a o ha ho)
    rcases h.2.2 a e with z | z | z
    · exact ha (List.mem_cons_of_mem _ z)
    · exact ha (by rw [z]; exact List.mem_cons_self)
    · rw [ho] at z; cases z
  · rcases k.2.2 a ha with z | z
    · exact h.2.2 a z
    · by_cases hm : a ∈ c :: ownR A R
      · rcases List.mem_cons.mp hm with y | y
        · exact .inr (.inl y)
        · exact .inl y
      · refine .inr (.inr ?_)
        cases hh : H a with
        | none => rfl
        | some o =>
          have y := h.2.1 a o hm hh
          rw [z] at y
          cases y
/-- new, or once the registry's own -/
def FrR (H : Hp) (A : RgA) (R : Rg) (a : Addr) : Prop := H a = none ∨ a ∈ ownR A R
theorem FrR.hb {a : Addr} (h : RgAt C CG HB H x A U R) (f : FrR H A R a) : HB a = none := f.elim (fresh_back h.bx) (h.nb a)
theorem FrR.ne {a c : Addr} {o : HO} (f : FrR H A R a) (nc : c ∉ ownR A R) (hc : H c = some o) : c ≠ a := fun z => by
  rcases f with y | y
  · rw [← z, hc] at y; cases y
  · exact nc (by rw [z]; exact y)
theorem RgTo.fr {a : Addr} (h : RgTo C CG HB H H' x A U R R') (z : H' a = none) : FrR H A R a := by
  by_cases ha : a ∈ ownR A R
  · exact .inr ha
  · refine .inl ?_
    cases hh : H a with
    | none => rfl
    | some o =>
      have y := h.2.1 a o ha hh
      rw [z] at y
      cases y
/-- seen from before the list was made -/
theorem RgTo.thenC {c : Addr} {H2 : Hp} {R2 : Rg} (h : RgTo C CG HB H H' x A U R R') (hc : FrR H A R c) (k : RgToC C CG HB H' H2 x A U R' R2 c) : RgTo C CG HB H H2 x A U R R2 := by
  obtain ⟨a1, a2, a3⟩ := RgToC.fromTo h k
  refine ⟨a1, fun a o ha ho => a2 a o (fun z => ?_) ho, fun a ha => ?_⟩
  · rcases List.mem_cons.mp z with z | z
    · exact hc.ne ha ho z
    · exact ha z
  · rcases a3 a ha with z | z | z
    · exact .inl z
    · rw [z]
      exact hc.symm
    · exact .inr z
/-! ### what a failure changes -/
def chR (R : Rg) (y : Str) : Option (List Str) := (getA R.ch y).map (·.2)
structure FalTo (R : Rg) (k : Str → Option (List Str)) (G : List Str) (R' : Rg) : Prop where
  ge : R'.ge = R.ge
  st : ∀ y, stM R' y = if y ∈ G then ("failed" : Str) else stM R y
  hd : ∀ y, y ∈ R'.hd ↔ (y ∈ R.hd ∨ (y ∈ G ∧ stM R y = "running"))
  g : ∀ q : Pr, q.2 ∈ tgS R'.g q.1 ↔ (q.2 ∈ tgS R.g q.1 ∧ ¬ (q.1 ∈ G ∧ stM R q.1 ≠ "running"))
  ga : ∀ q : Pr, q.2 ∈ tgS R'.ga q.1 ↔ (q.2 ∈ tgS R.ga q.1 ∧ q.1 ∉ G)
  ex : ∀ y, exR R' y = if y ∈ G then [] else exR R y
  ch : ∀ y, chR R' y = if y ∈ G then k y else chR R y
theorem FalTo.refl (R : Rg) (k : Str → Option (List Str)) : FalTo R k [] R :=
  ⟨rfl, (fun y => by rw [if_neg (fun z => nomatch z)]), (fun y => ⟨.inl, fun z => z.elim id fun z => nomatch z.1⟩), (fun q => ⟨fun z => ⟨z, fun y => nomatch y.1⟩, fun z => z.1⟩), (fun q => ⟨fun z => ⟨z, fun y => nomatch y⟩, fun z => z.1⟩), (fun y => by rw [if_neg (fun z => nomatch z)]), fun y => by rw [if_neg (fun z => nomatch z)]⟩
/-- one more -/
theorem FalTo.one {R1 R2 : Rg} {k k1 : Str → Option (List Str)} {G : List Str} {m : Str} (h : FalTo R k G R1) (s : FalTo R1 k1 [m] R2) (hm : m ∉ G) (hk : k1 m = k m) : FalTo R k (G ++ [m]) R2 := by
  have ap : ∀ {y : Str}, y ∈ G ++ [m] ↔ (y ∈ G ∨ y = m) := fun {y} => by rw [List.mem_append, List.mem_singleton]
  have e1 : ∀ {y : Str}, y ∈ ([m] : List Str) ↔ y = m := List.mem_singleton
  refine ⟨s.ge.trans h.ge, fun y => ?_, fun y => ?_, fun q => ?_, fun q => ?_, fun y => ?_, fun y => ?_⟩
  · rw [s.st y, h.st y]
    by_cases c : y = m
    · rw [if_pos (e1.mpr c), if_pos (ap.mpr (.inr c))]
    · rw [if_neg (fun z => c (e1.mp z))]
      by_cases d : y ∈ G
      · rw [if_pos d, if_pos (ap.mpr (.inl d))]
      · rw [if_neg d, if_neg (fun z => (ap.mp z).elim d c)]
  · rw [s.hd y, h.hd y, or_assoc]
    refine or_congr Iff.rfl ⟨fun z => ?_, fun z => ?_⟩
    · rcases z with z | z
      · exact ⟨ap.mpr (.inl z.1), z.2⟩
      · have c := e1.mp z.1
        refine ⟨ap.mpr (.inr c), ?_⟩
        have y := z.2
        rw [h.st, c, if_neg hm] at y
        rw [c]
        exact y
    · rcases ap.mp z.1 with d | c
      · exact .inl ⟨d, z.2⟩
      · refine .inr ⟨e1.mpr c, ?_⟩
        rw [h.st, c, if_neg hm, ← c]
        exact z.2
  · rw [s.g q, h.g q, and_assoc]
    refine and_congr Iff.rfl ⟨fun z y => ?_, fun z => ⟨fun y => z ⟨ap.mpr (.inl y.1), y.2⟩, fun y => ?_⟩⟩
    · rcases ap.mp y.1 with d | c
      · exact z.1 ⟨d, y.2⟩
      · refine z.2 ⟨e1.mpr c, ?_⟩
        rw [h.st, c, if_neg hm, ← c]
        exact y.2
    · have c := e1.mp y.1
      refine z ⟨ap.mpr (.inr c), ?_⟩
      have w := y.2
      rw [h.st, c, if_neg hm, ← c] at w
      exact w
  · rw [s.ga q, h.ga q, and_assoc]
    refine and_congr Iff.rfl ⟨fun z y => (ap.mp y).elim z.1 fun c => z.2 (e1.mpr c), fun z => ⟨fun y => z (ap.mpr (.inl y)), fun y => z (ap.mpr (.inr (e1.mp y)))⟩⟩
  · rw [s.ex y, h.ex y]
    by_cases c : y = m
    · rw [if_pos (e1.mpr c), if_pos (ap.mpr (.inr c))]
    · rw [if_neg (fun z => c (e1.mp z))]
      by_cases d : y ∈ G
      · rw [if_pos d, if_pos (ap.mpr (.inl d))]
      · rw [if_neg d, if_neg (fun z => (ap.mp z).elim d c)]
  · rw [s.ch y, h.ch y]
    by_cases c : y = m
    · rw [if_pos (e1.mpr c), if_pos (ap.mpr (.inr c)), c, hk]
    · rw [if_neg (fun z => c (e1.mp z))]
      by_cases d : y ∈ G
      · rw [if_pos d, if_pos (ap.mpr (.inl d))]
      · rw [if_neg d, if_neg (fun z => (ap.mp z).elim d c)]
/-- the same modules in another order, chains told alike -/
theorem FalTo.same {R1 : Rg} {k k' : Str → Option (List Str)} {G G' : List Str} (h : FalTo R k G R1) (p : ∀ y, y ∈ G ↔ y ∈ G') (hk : ∀ y ∈ G, k y = k' y) : FalTo R k' G' R1 := by
  have ite : ∀ {α : Type} {y : Str} {a b b' : α}, (y ∈ G → a = b') → (if y ∈ G then a else b) = if y ∈ G' then b' else b := fun {α y a b b'} e => by
    by_cases c : y ∈ G
    · rw [if_pos c, if_pos ((p y).mp c), e c]
    · rw [if_neg c, if_neg fun z => c ((p y).mpr z)]
  refine ⟨h.ge, fun y => (h.st y).trans (ite fun _ => rfl), fun y => (h.hd y).trans ?_, fun q => (h.g q).trans ?_, fun q => (h.ga q).trans ?_, fun y => (h.ex y).trans (ite fun _ => rfl), fun y => (h.ch y).trans (ite fun c => hk y c)⟩
  · rw [p y]
  · rw [p q.1]
  · rw [p q.1]
end
end Cr
/-! registries: sink -/
namespace Cr
open PySem PySem.Spec PyProof.Rows L2 Evl
abbrev sRSk : Stmt := inClass (topS 21) 20
abbrev nRSk : List Str := ["self", "module", "chain"]
theorem scRSk : FnScope nRSk ["self", "module", "chain"] (defScope sRSk) := ⟨rfl, rfl, rfl, by decide +kernel, rfl, by decide +kernel, by decide +kernel⟩
def spRSk (C CG : Addr) : Sp := fun vs H Q _ => ∃ x m c l HB A U R, vs = [.ref x, .str m, .ref c] ∧ RgAt C CG HB H x A U R ∧ m ∈ U ∧ H c = some (.lst (l.map V.str)) ∧ c ∉ ownR A R ∧ HB c = none ∧ ∀ R' H', RgToC C CG HB H H' x A U R R' c → FalTo R (fun _ => some l) [m] R' → Q .non H'
def hdAdd (hd : List Str) (m : Str) : List Str := if m ∈ hd then hd else hd ++ [m]
theorem mem_hdAdd {hd : List Str} {m y : Str} : y ∈ hdAdd hd m ↔ (y ∈ hd ∨ y = m) := by
  unfold hdAdd
  by_cases c : m ∈ hd
  · rw [if_pos c]
    exact ⟨.inl, fun z => z.elim id fun z => by rw [z]; exact c⟩
  · rw [if_neg c, List.mem_append, List.mem_singleton]
theorem kvHd_put (hd : List Str) (m : Str) : putK (kvHd hd) (.inr m) (.bl true) = kvHd (hdAdd hd m) := by
  have z := putK_map (fun _ : Unit => V.bl true) (hd.map fun n => (n, ())) m ()
  have e : ∀ l : List Str, (l.map fun n => (n, ())).map (fun r => ((.inr r.1 : Key), (fun _ : Unit => V.bl true) r.2)) = kvHd l := fun l => by unfold kvHd; rw [List.map_map]; rfl
  rw [e] at z
  rw [z, ← e]
  congr 1
  unfold putA hdAdd
  have a : ((hd.map fun n => (n, ())).any fun r => decide (r.1 = m)) = decide (m ∈ hd) := by
    rw [List.any_map, Bool.eq_iff_iff, List.any_eq_true, decide_eq_true_eq]
    exact ⟨fun ⟨y, hy, e⟩ => by rw [← show y = m from of_decide_eq_true e]; exact hy, fun h => ⟨m, h, decide_eq_true rfl⟩⟩
  rw [a]
  by_cases c : m ∈ hd
  · rw [if_pos (decide_eq_true c), if_pos c, List.map_map]
    refine List.map_congr_left fun n _ => ?_
    show (if n = m then (n, ()) else (n, ())) = _
    split <;> rfl
  · rw [if_neg (by rw [decide_eq_true_eq]; exact c), if_neg c, List.map_append]
    rfl
section
variable {C CG x : Addr} {HB H H' : Hp} {A : RgA} {U : List Str} {R R' : Rg}
theorem RgAt.putH (h : RgAt C CG HB H x A U R) {m : Str} (hm : m ∈ U) : DPut H A.aH (.str m) (.bl true) (upd H A.aH (.dK (kvHd (hdAdd R.hd m)))) ∧ RgTo C CG HB H (upd H A.aH (.dK (kvHd (hdAdd R.hd m)))) x A U R { R with hd := hdAdd R.hd m } := by
  refine ⟨?_, h.setH _ ?_ fun n hn => (mem_hdAdd.mp hn).elim (h.wf.hu n) fun z => by rw [z]; exact hm⟩
  · have z := DPut.k (k := Sum.inr m) (v := .bl true) h.hH (by
      have := pigeon h.wf.hn h.wf.hu
      have := h.wf.u40
      unfold kvHd
      rw [List.length_map, sizeLine_eq]
      omega)
    rw [kvHd_put] at z
    exact z
  · unfold hdAdd
    by_cases c : m ∈ R.hd
    · rw [if_pos c]; exact h.wf.hn
    · rw [if_neg c, List.nodup_append]
      refine ⟨h.wf.hn, List.nodup_cons.mpr ⟨(fun z => nomatch z), List.nodup_nil⟩, fun a ha b hb e => c ?_⟩
      rw [List.mem_singleton.mp hb] at e
      rw [← e]; exact ha
/-- a chain is put -/
theorem RgAt.putC (h : RgAt C CG HB H x A U R) {m : Str} {c : Addr} {l : List Str} (hm : m ∈ U) (hc : H c = some (.lst (l.map V.str))) (nc : c ∉ ownR A R) (zc : HB c = none) :
    DPut H A.aC (.str m) (.ref c) (upd H A.aC (.dK (kvCh (putA R.ch m (c, l))))) ∧ RgToC C CG HB H (upd H A.aC (.dK (kvCh (putA R.ch m (c, l))))) x A U R { R with ch := putA R.ch m (c, l) } c := by
  have w := h.wf
  have few : R.ch.length ≤ 40 := by
    have z := pigeon w.cn w.cu
    rw [List.length_map] at z
    have := w.u40
    omega
  have mC : A.aC ∈ ownR A R := mem_ownR.mpr ⟨2, List.mem_cons_self⟩
  have nCc : A.aC ≠ c := fun z => nc (by rw [← z]; exact mC)
  have nn2 := List.nodup_cons.mp (h.nn 2)
  have seg2 : segR A { R with ch := putA R.ch m (c, l) } 2 = A.aC :: (putA R.ch m (c, l)).map cAd := rfl
  have rows : ∀ r ∈ putA R.ch m (c, l), r = (m, (c, l)) ∨ (r ∈ R.ch ∧ r.1 ≠ m) := fun r hr => mem_putA hr
  have ads : ∀ a ∈ (putA R.ch m (c, l)).map cAd, a ∈ R.ch.map cAd ∨ a = c := fun a ha => by
    obtain ⟨r, hr, rfl⟩ := List.mem_map.mp ha
    rcases rows r hr with rfl | ⟨hr, _⟩
    · exact .inr rfl
    · exact .inl (List.mem_map_of_mem (f := cAd) hr)
  have wf' : WfR U { R with ch := putA R.ch m (c, l) } := ⟨w.un, w.up, w.u1, w.u40, w.st, w.sv, w.ex, w.xi, putA_nodup w.cn, fun n hn => by
    have hn : n ∈ (putA R.ch m (c, l)).map (·.1) := hn
    rw [putA_keys] at hn
    split at hn
    · exact w.cu n hn
    · rcases List.mem_append.mp hn with z | z
      · exact w.cu n z
      · rw [List.mem_singleton.mp z]; exact hm, w.hn, w.hu⟩
  have lsts : ∀ r ∈ putA R.ch m (c, l), (upd H A.aC (.dK (kvCh (putA R.ch m (c, l))))) r.2.1 = some (.lst (r.2.2.map V.str)) := fun r hr => by
    rcases rows r hr with rfl | ⟨hr, _⟩
    · rw [upd_ne nCc.symm]
      exact hc
    · have ne : r.2.1 ≠ A.aC := fun z => nn2.1 (by rw [← z]; exact List.mem_map_of_mem (f := cAd) hr)
      rw [upd_ne ne]
      exact h.hCi r hr
  obtain ⟨a1, a2, a3⟩ := h.chgF (i := 2) (l := [A.aC]) (R' := { R with ch := putA R.ch m (c, l) }) (H' := upd H A.aC (.dK (kvCh (putA R.ch m (c, l))))) (Fr := fun a => a = c) (fun a e => by rw [e]; exact ⟨nc, zc⟩) ((But.refl H).upd (by simp)) (fun a ha => by rw [List.mem_singleton.mp ha]; exact List.mem_cons_self) (fun a ha => by
      rw [seg2] at ha
      rcases List.mem_cons.mp ha with z | z
      · exact .inl (by rw [z]; exact List.mem_cons_self)
      · exact (ads a z).imp (fun y => List.mem_cons_of_mem _ y) id) (by
      rw [seg2]
      refine List.nodup_cons.mpr ⟨fun z => (ads _ z).elim nn2.1 nCc, putA_ad cAd w.cn nn2.2 fun z => nc (mem_ownR.mpr ⟨2, List.mem_cons_of_mem _ z⟩)⟩)
      wf'
      (fun _ => rfl) (fun _ => rfl) (fun z => absurd rfl z) (fun _ => rfl) (fun _ => rfl) (fun _ => rfl) (fun _ => rfl) (fun z => nomatch z) (fun z => nomatch z) (fun _ => ⟨upd_same, lsts⟩) (fun z => nomatch z) (fun z => nomatch z) (fun z => nomatch z) (fun z => nomatch z)
  refine ⟨?_, a1, a2.mono fun a ha => List.mem_cons_of_mem _ ha, fun a ha => (a3 a ha).imp id .inl⟩
  have z := DPut.k (k := Sum.inr m) (v := .ref c) h.hC (by
    unfold kvCh
    rw [List.length_map, sizeLine_eq]
    omega)
  have y := putK_map (fun r : Addr × List Str => V.ref r.1) R.ch m (c, l)
  have y2 : putK (kvCh R.ch) (.inr m) (.ref c) = kvCh (putA R.ch m (c, l)) := y
  rw [y2] at z
  exact z
/-- new exports -/
theorem RgAt.newX (h : RgAt C CG HB H x A U R) {m : Str} {b : Addr} (hm : m ∈ U) (zb : H b = none) :
    DPut (upd H b (.dK [])) A.aX (.str m) (.ref b) (upd (upd H b (.dK [])) A.aX (.dK (kvX (putA R.ex m (b, []))))) ∧ RgTo C CG HB H (upd (upd H b (.dK [])) A.aX (.dK (kvX (putA R.ex m (b, []))))) x A U R { R with ex := putA R.ex m (b, []) } := by
  have w := h.wf
  have e1 : Ex H (upd H b (.dK [])) := Ex.new zb
  have kU : (putA R.ex m (b, [])).map (·.1) = U := by rw [putA_keys, if_pos (by rw [w.ex]; exact hm)]; exact w.ex
  have nx : (R.ex.map (·.1)).Nodup := by rw [w.ex]; exact rise_nodup w.up
  have few : R.ex.length ≤ 40 := by
    have z := congrArg List.length w.ex
    rw [List.length_map] at z
    have := w.u40
    omega
  have nXb : A.aX ≠ b := fun z => by rw [← z, h.hX] at zb; cases zb
  have nn1 := List.nodup_cons.mp (h.nn 1)
  have seg1 : segR A { R with ex := putA R.ex m (b, []) } 1 = A.aX :: (putA R.ex m (b, [])).map xAd := rfl
  have ads : ∀ a ∈ (putA R.ex m (b, [])).map xAd, a ∈ R.ex.map xAd ∨ a = b := fun a ha => by
    obtain ⟨r, hr, rfl⟩ := List.mem_map.mp ha
    rcases mem_putA hr with rfl | ⟨hr, _⟩
    · exact .inr rfl
    · exact .inl (List.mem_map_of_mem (f := xAd) hr)
  have bB : But [A.aX] H (upd (upd H b (.dK [])) A.aX (.dK (kvX (putA R.ex m (b, []))))) := fun a o n ho => by
    rw [upd_ne (fun z => n (by rw [z]; exact List.mem_cons_self))]
    exact e1 _ _ ho
  have nb : ∀ a ∈ R.ex.map xAd, a ≠ b := fun a ha z => by
    obtain ⟨r, hr, e⟩ := List.mem_map.mp ha
    have y := h.hXi r hr
    rw [show r.2.1 = b from e.trans z, zb] at y
    cases y
  refine ⟨?_, h.chg (i := 1) (l := [A.aX]) bB (fun a ha => by rw [List.mem_singleton.mp ha]; exact List.mem_cons_self) (fun a ha => ?_) ?_ ⟨w.un, w.up, w.u1, w.u40, w.st, w.sv, kU, fun r hr => ?_, w.cn, w.cu, w.hn, w.hu⟩
    (fun _ => rfl) (fun z => absurd rfl z) (fun _ => rfl) (fun _ => rfl) (fun _ => rfl) (fun _ => rfl) (fun _ => rfl) (fun z => nomatch z) (fun _ => ⟨upd_same, fun r hr => ?_⟩) (fun z => nomatch z) (fun z => nomatch z) (fun z => nomatch z) (fun z => nomatch z) (fun z => nomatch z)⟩
  · have z := DPut.k (k := Sum.inr m) (v := .ref b) (e1 _ _ h.hX) (by
      unfold kvX
      rw [List.length_map, sizeLine_eq]
      omega)
    have y := putK_map (fun r : Addr × Ints => V.ref r.1) R.ex m (b, [])
    have y2 : putK (kvX R.ex) (.inr m) (.ref b) = kvX (putA R.ex m (b, [])) := y
    rw [y2] at z
    exact z
  · rw [seg1] at ha
    rcases List.mem_cons.mp ha with z | z
    · exact .inl (by rw [z]; exact List.mem_cons_self)
    · rcases ads a z with y | y
      · exact .inl (List.mem_cons_of_mem _ y)
      · exact .inr (by rw [y]; exact zb)
  · rw [seg1]
    exact List.nodup_cons.mpr ⟨fun z => (ads _ z).elim nn1.1 nXb, putA_ad xAd nx nn1.2 fun z => nb _ z rfl⟩
  · rcases mem_putA hr with rfl | ⟨hr, _⟩
    · exact List.nodup_nil
    · exact w.xi r hr
  · rcases mem_putA hr with rfl | ⟨hr, _⟩
    · rw [upd_ne nXb.symm]
      exact upd_same
    · have ne : r.2.1 ≠ A.aX := fun z => nn1.1 (by rw [← z]; exact List.mem_map_of_mem (f := xAd) hr)
      rw [upd_ne ne]
      exact e1 _ _ (h.hXi r hr)
end
theorem exR_new (R : Rg) (m : Str) (b : Addr) (y : Str) : exR { R with ex := putA R.ex m (b, []) } y = if y = m then [] else exR R y := by
  unfold exR
  rw [getA_put]
  by_cases e : y = m
  · rw [if_pos e, if_pos e]; rfl
  · rw [if_neg e, if_neg e]
theorem chR_put (R : Rg) (m : Str) (c : Addr) (l : List Str) (y : Str) : chR { R with ch := putA R.ch m (c, l) } y = if y = m then some l else chR R y := by
  unfold chR
  rw [getA_put]
  by_cases e : y = m
  · rw [if_pos e, if_pos e]; rfl
  · rw [if_neg e, if_neg e]
section
variable {P : Program} {w : World} {K : PySem.W.Frag} {mg : Str → Option Value} {base : Heap}
theorem ok_rsk {f C CG : Addr} {fd : FuncData} {k : Nat} (F : Fun K "sink" "Registry.sink" sRSk f fd) (T : RgC K mg C) (TN : NdC K mg CG) (h5 : HasM P w K mg base CX0 k CG "delete_all" ["self", "source"] (spDelAll CG)) : FnOk P w K mg base CX0 (k + 1) f fd ["self", "module", "chain"] (spRSk C CG) := by
  obtain ⟨f5, d5, G5, b5, mm5⟩ := h5.ex
  refine F.ok scRSk (fun vs H Q E h => by obtain ⟨_, _, _, _, _, _, _, _, rfl, _⟩ := h; rfl) (fun cdv A outer s0 H vs Q E hr h => ?_)
  obtain ⟨x, m, c, l, HB, A', U, R, rfl, rg, hm, hc, nc, zc, q⟩ := h
  have hu := hu_of hr
  refine ⟨_, pss_cut (ps_if (pt_cmpR op_eq (pe_dget hu (pe_fld (pv 0) rfl) (pv 1) (fun _ _ => rfl)) pe_str (nomark _)) (pss_one (ps_dput hu (pe_fld (pv 0) rfl) (pv 1) pe_bl rfl)) (pss_one (ps_expr (pe_meth (E := E0) (pe_fld (pv 0) rfl) TN.cl mm5 G5 hr b5 .nil pass0 (pa_cons (pv 1) pa_nil)))))
    (pss_cons (ps_dput hu (pe_fld (pv 0) rfl) (pv 1) pe_str rfl)
    (pss_cons (ps_dput hu (pe_fld (pv 0) rfl) (pv 1) (pv 2) rfl)
    (pss_cons (ps_dput hu (pe_fld (pv 0) rfl) (pv 1) pe_dnewK rfl)
    (pss_one (ps_expr (pe_meth (E := E0) (pe_fld (pv 0) rfl) TN.cl mm5 G5 hr b5 .nil pass0 (pa_cons (pv 1) pa_nil))))))), ?_⟩
  have nm := rg.wf.un m hm
  -- held, or its needs forgotten
  refine q_cut (M := fun σ' H1 => ∃ R1, σ' = [some (.ref x), some (.str m), some (.ref c)] ∧ RgTo C CG HB H H1 x A' U R R1 ∧ R1.st = R.st ∧ R1.ex = R.ex ∧ R1.ch = R.ch ∧ R1.ge = R.ge ∧ R1.ga = R.ga ∧ (∀ y, y ∈ R1.hd ↔ (y ∈ R.hd ∨ (y = m ∧ stM R y = "running"))) ∧ ∀ q : Pr, q.2 ∈ tgS R1.g q.1 ↔ (q.2 ∈ tgS R.g q.1 ∧ ¬ (q.1 = m ∧ stM R q.1 ≠ "running"))) ?_ ?_
  · have st0 : Ev (tDGet (tFld K (tVar 0) "states") (tVar 1)) [some (.ref x), some (.str m), some (.ref c)] H (.str (stM R m)) := ev_dgRd (x := m) (ev_fld (ev_var rfl) rg.ob T.cl T.nS (flR_S A')) (ev_var rfl) (.inl rg.hS) (st_val rg.wf hm)
    refine s_if (b := decide (stM R m = "running")) (et_is (et_test (ev_op st0 ev_c (rv_eq rfl))) (decide_eq_decide.mpr ⟨fun e => V.str.inj e, fun e => by rw [e]⟩)) (fun hb H1 e1 => ?_) (fun hb H1 e1 => ?_)
    · have run : stM R m = "running" := of_decide_eq_true hb
      have rg1 := rg.ex e1
      obtain ⟨dp, to2⟩ := rg1.putH hm
      refine ⟨.ref x, rfl, x, C, A'.dx, _, .ref A'.aH, rfl, rg1.ob, T.cl, T.nH, flR_H A', .str m, rfl, A'.aH, _, rfl, dp, _, rfl, RgTo.from e1 to2, rfl, rfl, rfl, rfl, rfl, fun y => mem_hdAdd.trans (or_congr Iff.rfl ⟨fun z => ⟨z, by rw [z]; exact run⟩, fun z => z.1⟩), fun q => ⟨fun z => ⟨z, fun y => y.2 (by rw [y.1]; exact run)⟩, fun z => z.1⟩⟩
    · have run : stM R m ≠ "running" := of_decide_eq_false hb
      have rg1 := rg.ex e1
      refine ⟨.ref x, rfl, x, C, A'.dx, _, .ref A'.gN.x, rfl, rg1.ob, T.cl, T.nN, flR_N A', ?_⟩
      refine ⟨A'.gN.x, A'.gN.a.dx, _, rfl, rg1.nN.ob, rfl, .str m, rfl, ?_⟩
      dsimp only [tNil, List.nil_append, List.cons_append]
      show spDelAll CG [.ref A'.gN.x, .str m] _ _ _
      refine delAll_of rg1.nN nm fun g7 H7 b7 nd7 iff7 new7 => ?_
      have to7 := rg1.setN (l := [A'.gN.a.dd]) b7 (fun a ha => by rw [List.mem_singleton.mp ha]; exact List.mem_cons_self) nd7 fun r hr => .inl (List.mem_cons_of_mem _ (List.mem_map_of_mem (new7 r hr)))
      refine ⟨_, rfl, RgTo.from e1 to7, rfl, rfl, rfl, rfl, rfl, fun y => ⟨.inl, fun z => z.elim id fun z => absurd (z.1 ▸ z.2) run⟩, fun q => (iff7 q).trans (and_congr Iff.rfl ⟨fun z y => z y.1, fun z y => z ⟨y, by rw [y]; exact run⟩⟩)⟩
  rintro σ' H1 ⟨R1, rfl, to1, st1, ex1, ch1, ge1, ga1, hd1, g1⟩
  have rg1 := to1.1
  have nc1 : c ∉ ownR A' R1 := fun z => (to1.2.2 c z).elim nc fun y => by rw [hc] at y; cases y
  have hc1 := to1.2.1 c _ nc hc
  -- the state
  obtain ⟨dp2, to2⟩ := rg1.putS hm (v := "failed") (by decide +kernel)
  refine ⟨.ref x, rfl, x, C, A'.dx, _, .ref A'.aS, rfl, rg1.ob, T.cl, T.nS, flR_S A', .str m, rfl, A'.aS, _, rfl, dp2, ?_⟩
  dsimp only
  have rg2 := to2.1
  have nc2 : c ∉ ownR A' { R1 with st := putA R1.st m "failed" } := fun z => (to2.2.2 c z).elim nc1 fun y => by rw [hc1] at y; cases y
  have hc2 := to2.2.1 c _ nc1 hc1
  generalize upd H1 A'.aS (.dK (kvSt (putA R1.st m "failed"))) = H2 at to2 rg2 hc2 ⊢
  -- the chain
  obtain ⟨dp3, to3⟩ := rg2.putC (l := l) hm hc2 nc2 zc
  refine ⟨.ref c, rfl, .ref x, rfl, x, C, A'.dx, _, .ref A'.aC, rfl, rg2.ob, T.cl, T.nC, flR_C A', .str m, rfl, A'.aC, _, rfl, dp3, ?_⟩
  dsimp only at to3 ⊢
  have rg3 := to3.1
  generalize upd H2 A'.aC (.dK (kvCh (putA R1.ch m (c, l)))) = H3 at to3 rg3 ⊢
  -- the exports
  refine fun b zb => ?_
  obtain ⟨dp4, to4⟩ := rg3.newX (b := b) hm zb
  refine ⟨.ref x, rfl, x, C, A'.dx, _, .ref A'.aX, rfl, (rg3.ex (Ex.new zb)).ob, T.cl, T.nX, flR_X A', .str m, rfl, A'.aX, _, rfl, dp4, ?_⟩
  dsimp only at to4 ⊢
  have rg4 := to4.1
  generalize upd (upd H3 b (.dK [])) A'.aX (.dK (kvX (putA R1.ex m (b, [])))) = H4 at to4 rg4 ⊢
  -- the early accesses
  refine ⟨.ref x, rfl, x, C, A'.dx, _, .ref A'.gA.x, rfl, rg4.ob, T.cl, T.nA, flR_A A', ?_⟩
  refine ⟨A'.gA.x, A'.gA.a.dx, _, rfl, rg4.nA.ob, rfl, .str m, rfl, ?_⟩
  dsimp only [tNil, List.nil_append, List.cons_append]
  show spDelAll CG [.ref A'.gA.x, .str m] _ _ _
  refine delAll_of rg4.nA nm fun g7 H7 b7 nd7 iff7 new7 => ?_
  have to5 := rg4.setA (l := [A'.gA.a.dd]) b7 (fun a ha => by rw [List.mem_singleton.mp ha]; exact List.mem_cons_self) nd7 fun r hr => .inl (List.mem_cons_of_mem _ (List.mem_map_of_mem (new7 r hr)))
  have toC := (RgToC.fromTo (to1.trans to2) to3).thenTo (to4.trans to5)
  refine q _ H7 toC ⟨ge1, fun y => ?_, fun y => (hd1 y).trans ?_, fun q => (g1 q).trans ?_, fun q => (iff7 q).trans ?_, fun y => ?_, fun y => ?_⟩
  · show stM { R1 with st := putA R1.st m "failed" } y = _
    rw [stM_put]
    unfold stM
    rw [st1]
    by_cases e : y = m
    · rw [if_pos e, if_pos (List.mem_singleton.mpr e)]
    · rw [if_neg e, if_neg (fun z => e (List.mem_singleton.mp z))]
  · rw [List.mem_singleton]
  · rw [List.mem_singleton]
  · rw [List.mem_singleton]
    show q.2 ∈ tgS R1.ga q.1 ∧ _ ↔ _
    rw [ga1]
  · show exR { R1 with ex := putA R1.ex m (b, []) } y = _
    rw [exR_new]
    unfold exR
    rw [ex1]
    by_cases e : y = m
    · rw [if_pos e, if_pos (List.mem_singleton.mpr e)]
    · rw [if_neg e, if_neg (fun z => e (List.mem_singleton.mp z))]
  · show chR { R1 with ch := putA R1.ch m (c, l) } y = _
    rw [chR_put]
    unfold chR
    rw [ch1]
    by_cases e : y = m
    · rw [if_pos e, if_pos (List.mem_singleton.mpr e)]
    · rw [if_neg e, if_neg (fun z => e (List.mem_singleton.mp z))]
end
end Cr
/-! {k: v for a in xs if .. for b in ys if ..}: a dict comprehension with two clauses -/
namespace Cr
open PySem PySem.Spec PyProof.Rows L2 Evl
section
variable (kx vx t0 i0 t1 i1 : Expr) (f0 f1 : List Expr) (sc : Scope) (p : Pos)
abbrev dcE2 : Expr := .DictComp kx vx [⟨t0, i0, f0, 0⟩, ⟨t1, i1, f1, 0⟩] sc p
abbrev testsOf (fs : List Expr) (env : Env) : Sem Bool := forIn fs true fun c r => if r = true then do let ok ← isTrue c env (eval c env); pure (ForInStep.yield ok) else pure (ForInStep.yield r)
theorem turnD0 (it acc : Value) (env : Env) : compTurn (dcE2 kx vx t0 i0 t1 i1 f0 f1 sc p) 0 it acc env = (do
    standAt i0.pos; let nx ← pyNext it
    match nx with
    | none => pure (.done .next)
    | some v => do
      letOwnedTupleGo t0 it v; assign t0 env v
      let ok ← testsOf f0 env
      if ok then
        let x ← eval i1 env; standAt i1.pos; let x ← foldedSetIterable i1 env x; let it1 ← holding [x] (pyIter x)
        let _ ← PySem.runOwn (.compStart (dcE2 kx vx t0 i0 t1 i1 f0 f1 sc p) 1 it1 acc env) env
      again (.compLoop (dcE2 kx vx t0 i0 t1 i1 f0 f1 sc p) 0 it acc env)) := by rfl
theorem turnD1 (it : Value) (D : Addr) (env : Env) : compTurn (dcE2 kx vx t0 i0 t1 i1 f0 f1 sc p) 1 it (.ref D) env = (do
    standAt i1.pos; let nx ← pyNext it
    match nx with
    | none => pure (.done .next)
    | some v => do
      letOwnedTupleGo t1 it v; assign t1 env v
      let ok ← testsOf f1 env
      if ok then
        (do let kv ← eval kx env; let vv ← holding [kv] (eval vx env); standAt { kx.pos with endLine := vx.pos.endLine, endCol := vx.pos.endCol }; holding [kv, vv] (dictSet D kv vv))
      again (.compLoop (dcE2 kx vx t0 i0 t1 i1 f0 f1 sc p) 1 it (.ref D) env)) := by rfl
variable {prog : Program} {w : World} {A : Around} {R : Result → Shared → Prop} {s : Shared} {it acc : Value} {env : Env}
theorem startD1 (h0 : codeAny (model prog w) A (.compLoop (dcE2 kx vx t0 i0 t1 i1 f0 f1 sc p) 1 it acc env) R s)
    (h : wpAny (model prog w) A (pyIter it) (fun it' s' => codeAny (model prog w) A (.compLoop (dcE2 kx vx t0 i0 t1 i1 f0 f1 sc p) 1 it' acc env) R s') (notedBy (model prog w) A env fun x s' => R (.error x) s') s) :
    codeAny (model prog w) A (.compStart (dcE2 kx vx t0 i0 t1 i1 f0 f1 sc p) 1 it acc env) R s := by
  apply codeAny_of_tree
  show wpAny _ A ((compStart (dcE2 kx vx t0 i0 t1 i1 f0 f1 sc p) 1 it acc env).onRaise (fun x => do noteFrame x env; standAt theWindowsPlace)) _ _ s
  apply wpAny_notedAt
  unfold compStart
  show wpAny _ A (ask >>= _) _ _ s
  refine wpAny_bind (wpAny_askSetting (wpAny_ite ?_)); split
  · first | exact wpAny_bind (wpAny_pure (wpAny_pure ⟨rfl, h0⟩)) | exact wpAny_pure ⟨rfl, h0⟩
  · first
      | exact wpAny_bind (wpAny_rule (wpAny_bind (wpAny_standAt (wpAny_bind (wpAny_mono h (fun i2 z hz => wpAny_pure ⟨rfl, hz⟩) fun _ _ x => x)))))
      | (refine wpAny_bind (wpAny_rule ?_); show wpAny _ _ (standAt i1.pos >>= _) _ _ s; exact wpAny_bind (wpAny_standAt (wpAny_bind (wpAny_mono h (fun i2 z hz => wpAny_pure ⟨rfl, hz⟩) fun _ _ x => x))))
end
/-- the second clause, from any turn -/
def W1At (J1 : It) (g1 : TG) (tt1 : TT) (tk tv : TE) (vs1 : List Nat) (D : Addr) (σ2 : L2.St) (Nx : Hp → Prop) (H4 : Hp) : Prop := ∃ W1 : Nat → Nat → Hp → Prop, (∃ m, W1 0 m H4) ∧ ∀ j k H, W1 j k H →
  (J1.stop j H ∧ Nx H) ∨ (J1.go j H ∧ ∃ N1 : Hp → Prop, (∀ H', N1 H' → ∃ k', k' < k ∧ W1 (j + 1) k' H') ∧ ∀ x H', J1.yld j H x H' → g1 x (wipe σ2 vs1) H' fun σ3 H5 => wipe σ3 vs1 = wipe σ2 vs1 ∧ tt1 σ3 H5 fun b H6 =>
    if b = true then tk σ3 H6 fun y H7 => tv σ3 H7 fun z H8 => ∃ kvs k, y = kV k ∧ H8 D = some (.dK kvs) ∧ kvs.length < sizeLine ∧ N1 (upd H8 D (.dK (putK kvs k z))) else N1 H6)
/-- the first clause; inner: what its turn does behind the tests -/
def W0At (J : It) (g : TG) (tt : TT) (inner : L2.St → Hp → (Hp → Prop) → Prop) (vs : List Nat) (σ0 : L2.St) (Q : Hp → Prop) (H : Hp) : Prop := ∃ W : Nat → Nat → Hp → Prop, (∃ m, W 0 m H) ∧ ∀ i m H, W i m H →
  (J.stop i H ∧ Q H) ∨ (J.go i H ∧ ∃ Nx : Hp → Prop, (∀ H', Nx H' → ∃ m', m' < m ∧ W (i + 1) m' H') ∧ ∀ x H', J.yld i H x H' → g x σ0 H' fun σ2 H2 => wipe σ2 vs = σ0 ∧ tt σ2 H2 fun b H3 => if b = true then inner σ2 H3 Nx else Nx H3)
def tDc2 (wi : TI) (g : TG) (tt : TT) (wi1 : TI) (g1 : TG) (tt1 : TT) (tk tv : TE) (vs vs1 : List Nat) : TE := fun σ H Q => wi σ H fun J H1 => ∀ D, H1 D = none → W0At J g tt (fun σ2 H3 Nx => wi1 σ2 H3 fun J1 H4 => W1At J1 g1 tt1 tk tv vs1 D σ2 Nx H4) vs (wipe σ vs) (fun H => Q (.ref D) H) (upd H1 D (.dK []))
section
variable {X : Cx} {kx vx t0 i0 t1 i1 : Expr} {f0 f1 : List Expr} {sc : Scope} {p : Pos} {wi wi1 : TI} {g g1 : TG} {tt tt1 : TT} {tk tv : TE} {vs vs1 : List Nat} {D : Addr} {pins : List (Addr × Obj)} {σ : L2.St} {s : Shared}
theorem noX {α : Type} {t : Sem α} {Q : α → Shared → Prop} {E : Value → Shared → Prop} (hx : X.xe = fun _ _ => False) (h : wpAny (model X.prog X.w) X.A t Q X.xe s) : wpAny (model X.prog X.w) X.A t Q E s := by
  rw [hx] at h
  exact thnF h fun _ _ z => z
/-- what a clause's iterator must stay -/
theorem fp_on {H H' : Hp} {fp : List Addr} (f : ∀ b ∈ fp, FpOk X pins H b) (n : ∀ b ∈ fp, H' b = none) : ∀ b ∈ fp, FpOk X pins H' b := fun b hb => ⟨n b hb, (f b hb).2⟩
theorem pin_keep {fp : List Addr} {h7 : Heap} {H' : Hp} {s' : Shared} (I' : Inv X (pins ++ pinsAt fp h7) σ H' s') : ∀ b ∈ fp, ∀ o, h7.get? b = some o → s'.heap.get? b = some o ∧ H' b = none := fun b hb o e => by
  have z := I'.pin (b, o) (List.mem_append_right _ (List.mem_append_right _ (mem_pinsAt hb e)))
  exact ⟨z.1, z.2.1⟩
theorem dc2_in {itv : Value} {Nx : Hp → Prop} {Fin : Shared → Prop} (hc : X.calm = true) (hx : X.xe = fun _ _ => False) (pg1 : PG X t1 g1) (pt1 : PTs X f1 tt1) (pk : PE X kx tk) (pe : PE X vx tv)
    (h : PIE X pins σ t1 (fun J1 H4 => W1At J1 g1 tt1 tk tv vs1 D σ Nx H4) itv s) (fin : ∀ s' H', Inv X pins (wipe σ vs1) H' s' → Nx H' → Fin s') :
    codeAny (model X.prog X.w) X.A (.compStart (dcE2 kx vx t0 i0 t1 i1 f0 f1 sc p) 1 itv (.ref D) X.env) (fun r s' => match r with | .ok _ => Fin s' | .error _ => False) s := by
  obtain ⟨it1, fp1, tn1, J1, H4, rfl, I4, T1, st4, ok4, W1, ⟨m1, w1⟩, turn1⟩ := h
  have lp : codeAny (model X.prog X.w) X.A (.compLoop (dcE2 kx vx t0 i0 t1 i1 f0 f1 sc p) 1 (.ref it1) (.ref D) X.env) (fun r s' => match r with | .ok _ => Fin s' | .error _ => False) s := by
    refine codeAny_loop rfl (fun k s' => ∃ j H', Inv X pins (wipe σ vs1) H' s' ∧ tn1 j s'.heap ∧ (∀ b ∈ fp1, H' b = none) ∧ W1 j k H') (fun k s1 hI => ?_) m1 ⟨0, H4, I4.weak (wipe_length _ _) (fun j v e => (wipe_some e).1), st4, (fun b hb => (ok4 b hb).1), w1⟩
    obtain ⟨j, Ha, Ia, sta, na, wa⟩ := hI
    show wpAny _ X.A ((compTurn (dcE2 kx vx t0 i0 t1 i1 f0 f1 sc p) 1 (.ref it1) (.ref D) X.env).onRaise (fun x => do noteFrame x X.env; theTreesLotGoes x)) _ _ s1
    apply wpAny_noted
    rw [turnD1]
    refine wpAny_bind (wpAny_standAt (wpAny_bind ?_))
    rcases turn1 j k Ha wa with ⟨stop, nx⟩ | ⟨go, N1, hN1, step1⟩
    · refine thnF (T1.done X rfl rfl rfl hc j pins s1 (wipe σ vs1) Ha (fun _ _ => False) Ia (fp_on ok4 na) sta stop) fun r s2 ⟨hr, I2⟩ => ?_
      subst hr
      exact wpAny_pure (fin s2 Ha I2 nx)
    · refine thnF (T1.item X rfl rfl rfl hc j pins s1 (wipe σ vs1) Ha (fun _ _ => False) Ia (fp_on ok4 na) sta go) fun r s2 ⟨u, hr, h2⟩ => ?_
      subst hr
      refine wpAny_bind (thnF h2 fun _ s3 ⟨x, H3, I3, rx, y3, st3, n3⟩ => ?_)
      have I3' := I3.pinned (fp_on ok4 n3) (T1.obj _ _ st3)
      refine wpAny_bind (thn (noX hx (pg1.run _ s3 (wipe σ vs1) H3 x u _ I3' rx (step1 x H3 y3))) fun _ s5 ⟨σ5, H5, I5, hw5, q5⟩ => ?_)
      refine wpAny_bind (thn (noX hx (pt1.run _ s5 σ5 H5 _ I5 q5)) fun b s6 ⟨H6, I6, q6⟩ => ?_)
      have again1 : ∀ {s' : Shared} {H' : Hp}, Inv X (pins ++ pinsAt fp1 s3.heap) σ5 H' s' → N1 H' → ∃ m, m < k ∧ ∃ j H', Inv X pins (wipe σ vs1) H' s' ∧ tn1 j s'.heap ∧ (∀ b ∈ fp1, H' b = none) ∧ W1 j m H' := fun {s' H'} I' nx => by
        obtain ⟨m', hm, w'⟩ := hN1 H' nx
        have pk' := pin_keep I'
        refine ⟨m', hm, j + 1, H', I'.unpinned.weak (by rw [← hw5, wipe_length]) (fun j v e => by rw [← hw5] at e; exact (wipe_some e).1), T1.keep _ _ _ st3 (fun b hb o e => (pk' b hb o e).1), (fun b hb => ?_), w'⟩
        obtain ⟨o, e, _⟩ := T1.obj _ _ st3 b hb
        exact (pk' b hb o e).2
      cases b with
      | false => exact wpAny_pure ⟨rfl, again1 I6 q6⟩
      | true =>
        refine wpAny_bind (wpAny_bind (thn (noX hx (pk.run _ s6 σ5 H6 _ I6 q6)) fun z s7 ⟨yk, H7, I7, r7, q7⟩ => ?_))
        refine wpAny_bind (wpAny_holding (thn (noX hx (pe.run _ s7 σ5 H7 _ I7 q7)) fun z2 s8 ⟨yv, H8, I8, r8, kvs, kk, ek, hD, hz, nx⟩ => ?_))
        subst ek
        refine wpAny_bind (wpAny_standAt (wpAny_holding ?_))
        exact d_dictSet I8 hD hz r7 r8 fun s9 I9 => wpAny_pure ⟨rfl, again1 I9 nx⟩
  exact startD1 _ _ _ _ _ _ _ _ _ _ lp (T1.self X.A 0 _ _ _ st4 lp)
theorem dc2_out {it : Addr} {fp : List Addr} {tn : Nat → Heap → Prop} {J : It} {σ0 : L2.St} {H : Hp} {Q : Hp → Prop} {R : Result → Shared → Prop} (hc : X.calm = true) (hx : X.xe = fun _ _ => False) (hv : ∀ i ∈ vs1, i ∈ vs) (pg : PG X t0 g) (pt : PTs X f0 tt) (pi1 : PI X t1 i1 wi1) (hs1 : ∀ env x, foldedSetIterable i1 env x = pure x)
    (pg1 : PG X t1 g1) (pt1 : PTs X f1 tt1) (pk : PE X kx tk) (pe : PE X vx tv) (T : Turn X.prog X.w X.K t0 J fp it tn) (I : Inv X [] σ0 H s) (f : ∀ b ∈ fp, FpOk X [] H b) (st : tn 0 s.heap)
    (h : W0At J g tt (fun σ2 H3 Nx => wi1 σ2 H3 fun J1 H4 => W1At J1 g1 tt1 tk tv vs1 D σ2 Nx H4) vs σ0 Q H) (don : ∀ s' H', Inv X [] σ0 H' s' → Q H' → R (.ok .next) s') :
    codeAny (model X.prog X.w) X.A (.compLoop (dcE2 kx vx t0 i0 t1 i1 f0 f1 sc p) 0 (.ref it) (.ref D) X.env) R s := by
  obtain ⟨W, ⟨m0, w0⟩, turn⟩ := h
  refine codeAny_loop rfl (fun n s' => ∃ i H', Inv X [] σ0 H' s' ∧ tn i s'.heap ∧ (∀ b ∈ fp, H' b = none) ∧ W i n H') (fun n s1 hI => ?_) m0 ⟨0, H, I, st, (fun b hb => (f b hb).1), w0⟩
  obtain ⟨i, Ha, Ia, sta, na, wa⟩ := hI
  show wpAny _ X.A ((compTurn (dcE2 kx vx t0 i0 t1 i1 f0 f1 sc p) 0 (.ref it) (.ref D) X.env).onRaise (fun x => do noteFrame x X.env; theTreesLotGoes x)) _ _ s1
  apply wpAny_noted
  rw [turnD0]
  refine wpAny_bind (wpAny_standAt (wpAny_bind ?_))
  rcases turn i n Ha wa with ⟨stop, qq⟩ | ⟨go, Nx, hNx, step⟩
  · refine thnF (T.done X rfl rfl rfl hc i [] s1 σ0 Ha (fun _ _ => False) Ia (fp_on f na) sta stop) fun r s2 ⟨hr, I2⟩ => ?_
    subst hr
    exact wpAny_pure (don s2 Ha I2 qq)
  · refine thnF (T.item X rfl rfl rfl hc i [] s1 σ0 Ha (fun _ _ => False) Ia (fp_on f na) sta go) fun r s2 ⟨u, hr, h2⟩ => ?_
    subst hr
    refine wpAny_bind (thnF h2 fun _ s3 ⟨x, H3, I3, rx, y3, st3, n3⟩ => ?_)
    have I3' := I3.pinned (fp_on f n3) (T.obj _ _ st3)
    refine wpAny_bind (thn (noX hx (pg.run _ s3 σ0 H3 x u _ I3' rx (step x H3 y3))) fun _ s5 ⟨σ5, H5, I5, hw5, q5⟩ => ?_)
    refine wpAny_bind (thn (noX hx (pt.run _ s5 σ5 H5 _ I5 q5)) fun b s6 ⟨H6, I6, q6⟩ => ?_)
    have again0 : ∀ {σ9 : L2.St} {s' : Shared} {H' : Hp}, Inv X ([] ++ pinsAt fp s3.heap) σ9 H' s' → σ0.length = σ9.length → (∀ (j : Nat) v, σ0[j]? = some (some v) → σ9[j]? = some (some v)) → Nx H' → ∃ m, m < n ∧ ∃ i H', Inv X [] σ0 H' s' ∧ tn i s'.heap ∧ (∀ b ∈ fp, H' b = none) ∧ W i m H' := fun {σ9 s' H'} I' hl hk nx => by
      obtain ⟨m', hm, w'⟩ := hNx H' nx
      have pk' := pin_keep I'
      refine ⟨m', hm, i + 1, H', (I'.unpinned (pins := [])).weak hl hk, T.keep _ _ _ st3 (fun b hb o e => (pk' b hb o e).1), (fun b hb => ?_), w'⟩
      obtain ⟨o, e, _⟩ := T.obj _ _ st3 b hb
      exact (pk' b hb o e).2
    have k5 : ∀ (j : Nat) v, σ0[j]? = some (some v) → σ5[j]? = some (some v) ∧ j ∉ vs := fun j v e => by rw [← hw5] at e; exact wipe_some e
    have l5 : σ0.length = σ5.length := by rw [← hw5, wipe_length]
    cases b with
    | false => exact wpAny_pure ⟨rfl, again0 I6 l5 (fun j v e => (k5 j v e).1) q6⟩
    | true =>
      refine wpAny_bind (thn (noX hx (pi1.run _ s6 σ5 H6 _ I6 q6)) fun xv s7 h7 => ?_)
      refine wpAny_bind (wpAny_standAt (wpAny_bind (wpAny_of_eq (hs1 _ xv) (wpAny_bind (wpAny_holding (thn (noX hx h7) fun itv s8 h8 => ?_))))))
      refine wpAny_bind (wpAny_runOwn ?_)
      rw [Around.mark_none]
      refine codeAny_mono (dc2_in hc hx pg1 pt1 pk pe h8 (Fin := fun s' => ∃ m, m < n ∧ ∃ i H', Inv X [] σ0 H' s' ∧ tn i s'.heap ∧ (∀ b ∈ fp, H' b = none) ∧ W i m H') fun s' H' I' nx => again0 I' (l5.trans (wipe_length σ5 vs1).symm) (fun j v e => by
        obtain ⟨e1, e2⟩ := k5 j v e
        rw [wipe_out fun z => e2 (hv j z)]
        exact e1) nx) fun r s' hr => ?_
      cases r with
      | ok fl => first | exact wpAny_pure ⟨rfl, hr⟩ | exact wpAny_bind (wpAny_pure (wpAny_pure ⟨rfl, hr⟩))
      | error e => exact hr.elim
end
section
variable {X : Cx}
/-- as a value -/
theorem pe_dc2 {kx vx t0 i0 t1 i1 : Expr} {f0 f1 : List Expr} {sc : Scope} {own : List (Str × Nat)} {vs1 : List Nat} {p : Pos} {wi wi1 : TI} {g g1 : TG} {tt tt1 : TT} {tk tv : TE} (hc : X.calm = true) (hN : X.N.Nodup) (hi : PI X t0 i0 wi) (ok : BlkOk X.N X.env.scope sc own) (hv : ∀ i ∈ vs1, i ∈ own.map (·.2))
    (hg : ∀ s H C cl fp, PG (X.blk s H sc (compEnvC sc cl C X.env) fp) t0 g) (ht : ∀ s H C cl fp, PTs (X.blk s H sc (compEnvC sc cl C X.env) fp) f0 tt) (hi1 : ∀ s H C cl fp, PI (X.blk s H sc (compEnvC sc cl C X.env) fp) t1 i1 wi1)
    (hg1 : ∀ s H C cl fp, PG (X.blk s H sc (compEnvC sc cl C X.env) fp) t1 g1) (ht1 : ∀ s H C cl fp, PTs (X.blk s H sc (compEnvC sc cl C X.env) fp) f1 tt1) (hk : ∀ s H C cl fp, PE (X.blk s H sc (compEnvC sc cl C X.env) fp) kx tk) (he : ∀ s H C cl fp, PE (X.blk s H sc (compEnvC sc cl C X.env) fp) vx tv)
    (hs : ∀ x, foldedSetIterable i0 X.env x = pure x := by intro _; rfl) (hs1 : ∀ env x, foldedSetIterable i1 env x = pure x := by intro _ _; rfl) : PE X (dcE2 kx vx t0 i0 t1 i1 f0 f1 sc p) (tDc2 wi g tt wi1 g1 tt1 tk tv (own.map (·.2)) vs1) := by
  refine ⟨fun pins s σ H Q I h => ?_⟩
  rw [arm_eval_DictComp]
  have hfree : ∀ y ∈ sc.names, y.2 = .free → ∃ c, X.env.cells.lookup y.1 = some c := fun y hy e => (ok.free y hy e).elim (fun k => I.ok.has _ (.inl k)) fun k => I.ok.has _ (.inr k)
  refine wpAny_comprehension_free rfl hs (closure_ok hfree) ok.kind (fun y hy e => by rw [ok.uniq y hy, e]) (thn (hi.run pins s σ H _ I h) fun xv s1 hx => thn hx fun itv s2 h2 => ?_)
  obtain ⟨it, fp, tn, J, H2, rfl, I2, T, st2, f2, q⟩ := h2
  refine wpAny_newObj_type (newEnv_comp ?_)
  obtain ⟨D, hD⟩ : ∃ D, s2.heap.objs.size = D := ⟨_, rfl⟩
  have w0 := q D (I2.hok.fresh (Nat.le_of_eq hD))
  -- the new dict
  obtain ⟨s3, hs3⟩ : ∃ s3 : Shared, s3 = { s2 with heap := s2.heap.push { cls := .type "dict", data := .dict #[] } } := ⟨_, rfl⟩
  have h3 : s3.heap = s2.heap.push { cls := .type "dict", data := .dict #[] } := by rw [hs3]
  obtain ⟨H3, hH3⟩ : ∃ H3 : Hp, H3 = upd H2 D (.dK []) := ⟨_, rfl⟩
  have I3 : Inv X pins σ H3 s3 := by
    rw [hs3, hH3]
    refine I2.laid (t' := s2.toks) (fun b o e => Heap.get?_push_of_some _ e) (Nat.le_of_eq hD) (by rw [← hD]; exact dk_empty s2.heap I2.big)
  have f3 : ∀ b ∈ fp, FpOk X pins H3 b ∧ b < s3.heap.objs.size := fun b hb => by
    obtain ⟨o, e, _⟩ := T.obj _ _ st2 b hb
    have lt := Heap.lt_size e
    exact ⟨⟨by rw [hH3, upd_ne (by rw [← hD]; exact Nat.ne_of_lt lt)]; exact (f2 b hb).1, (f2 b hb).2⟩, by rw [h3, Heap.size_push]; exact Nat.lt_succ_of_lt lt⟩
  have I4 := block_start I3 ok hN f3
  rw [← hH3] at w0
  rw [hD, ← hs3]
  obtain ⟨s4, hs4⟩ : ∃ s4 : Shared, s4 = { s3 with heap := pushCells (s3.heap.push { cls := .type "dict", data := .dict #[] }) sc.names } := ⟨_, rfl⟩
  rw [← hs4] at I4
  have st4 : tn 0 s4.heap := T.keep _ _ _ st2 fun b _ o e => by
    rw [hs4]
    exact pushCells_keeps _ _ _ _ (Heap.get?_push_of_some _ (by rw [h3]; exact Heap.get?_push_of_some _ e))
  have fb : ∀ b ∈ fp, FpOk (X.blk s3 H3 sc (compEnvC sc (cellsFrom (s3.heap.objs.size + 1) sc.names (cloFrom X.env.cells sc.names [])) s3.heap.objs.size X.env) fp) [] H3 b := fun b hb =>
    ⟨(f3 b hb).1.1, (I4.ok.exf b hb).1, I4.ok.exfs b hb, .inl hb, fun x c e => (I4.ok.exf b hb).2 x c e, fun q hq => absurd (show q ∈ ([] : List (Addr × Obj)) ++ [] from hq) (by simp)⟩
  have lp := dc2_out (X := X.blk s3 H3 sc (compEnvC sc (cellsFrom (s3.heap.objs.size + 1) sc.names (cloFrom X.env.cells sc.names [])) s3.heap.objs.size X.env) fp) (kx := kx) (vx := vx) (t0 := t0) (i0 := i0) (t1 := t1) (i1 := i1) (f0 := f0) (f1 := f1) (sc := sc) (p := p) (D := D)
    (R := compPost (model X.prog X.w) X.A X.xe none (EP X pins σ Q) (.ref D) s3.heap.objs.size) hc rfl hv (hg _ _ _ _ _) (ht _ _ _ _ _) (hi1 _ _ _ _ _) hs1 (hg1 _ _ _ _ _) (ht1 _ _ _ _ _) (hk _ _ _ _ _) (he _ _ _ _ _) T I4 fb st4 w0 fun s6 H5 I6 qq => by
      have I7 : Inv X pins σ H5 s6 := I3.call' (ch := fp) I6.os I6.base I6.hok I6.bare fun b hb => ⟨(f3 b hb).1.2.2.2.1, (f3 b hb).1.2.1, (f3 b hb).1.2.2.2.2.1, (f3 b hb).1.2.2.2.2.2⟩
      obtain ⟨m, hn, _⟩ := I6.loc
      refine ⟨m, hn, fun h8 sb => ?_⟩
      obtain ⟨e0, e1, e2, e3, e4, e5⟩ : FpOk X pins H5 s3.heap.objs.size := I3.fpOk (Nat.le_refl _) I6.free
      exact ⟨.ref D, H5, I7.turned (t' := s6.toks) (fun b o hb e => (sb.2 b hb).trans e) e0 e1 e3 e4 e5, rfl, qq⟩
  have z := codeAny_compStart_dict (rest := [⟨t1, i1, f1, 0⟩]) lp (T.self X.A 0 _ _ _ st4 lp)
  rw [hs4] at z
  exact z
end
end Cr
/-! a dict of names, made of lists of names: {y: True for n in ns for y in f(n)} -/
namespace Cr
open PySem PySem.Spec PyProof.Rows L2 Evl
theorem w0_it {J : It} {n : Nat} {G : Hp → Prop} {Y : Nat → Hp → V → Hp → Prop} (w : Walk J n G Y) {g : TG} {tt : TT} {inner : L2.St → Hp → (Hp → Prop) → Prop} {vs : List Nat} {σ0 : L2.St} {Q : Hp → Prop} {H0 : Hp} (Pv : Nat → Hp → Prop) (z0 : Pv 0 H0) (keep : ∀ i H, i ≤ n → Pv i H → G H)
    (turn : ∀ i x H H', i < n → Pv i H → Y i H x H' → g x σ0 H' fun σ2 H2 => wipe σ2 vs = σ0 ∧ tt σ2 H2 fun b H3 => if b = true then inner σ2 H3 (Pv (i + 1)) else Pv (i + 1) H3) (fin : ∀ H, Pv n H → Q H) : W0At J g tt inner vs σ0 Q H0 := by
  refine ⟨fun i m H => i + m = n ∧ Pv i H, ⟨n, by omega, z0⟩, ?_⟩
  rintro i m H ⟨e, p⟩
  cases m with
  | zero =>
    obtain rfl : i = n := by omega
    exact .inl ⟨w.stops H (keep i H (Nat.le_refl _) p), fin H p⟩
  | succ m => exact .inr ⟨w.goes i H (by omega) (keep i H (by omega) p), Pv (i + 1), fun H' p' => ⟨m, by omega, by omega, p'⟩, fun x H' y => turn i x H H' (by omega) p (w.yields i H x H' (by omega) (keep i H (by omega) p) y)⟩
theorem w1_it {J : It} {n : Nat} {G : Hp → Prop} {Y : Nat → Hp → V → Hp → Prop} (w : Walk J n G Y) {g : TG} {tt : TT} {tk tv : TE} {vs1 : List Nat} {D : Addr} {σ2 : L2.St} {Nx : Hp → Prop} {H0 : Hp} (Pv : Nat → Hp → Prop) (z0 : Pv 0 H0) (keep : ∀ i H, i ≤ n → Pv i H → G H)
    (turn : ∀ i x H H', i < n → Pv i H → Y i H x H' → g x (wipe σ2 vs1) H' fun σ3 H5 => wipe σ3 vs1 = wipe σ2 vs1 ∧ tt σ3 H5 fun b H6 => if b = true then tk σ3 H6 fun y H7 => tv σ3 H7 fun z H8 => ∃ kvs k, y = kV k ∧ H8 D = some (.dK kvs) ∧ kvs.length < sizeLine ∧ Pv (i + 1) (upd H8 D (.dK (putK kvs k z))) else Pv (i + 1) H6)
    (fin : ∀ H, Pv n H → Nx H) : W1At J g tt tk tv vs1 D σ2 Nx H0 := by
  refine ⟨fun i m H => i + m = n ∧ Pv i H, ⟨n, by omega, z0⟩, ?_⟩
  rintro i m H ⟨e, p⟩
  cases m with
  | zero =>
    obtain rfl : i = n := by omega
    exact .inl ⟨w.stops H (keep i H (Nat.le_refl _) p), fin H p⟩
  | succ m => exact .inr ⟨w.goes i H (by omega) (keep i H (by omega) p), Pv (i + 1), fun H' p' => ⟨m, by omega, by omega, p'⟩, fun x H' y => turn i x H H' (by omega) p (w.yields i H x H' (by omega) (keep i H (by omega) p) y)⟩
theorem hdAdd_nodup {hd : List Str} {m : Str} (h : hd.Nodup) : (hdAdd hd m).Nodup := by
  unfold hdAdd
  by_cases c : m ∈ hd
  · rw [if_pos c]; exact h
  · rw [if_neg c, List.nodup_append]
    refine ⟨h, List.nodup_cons.mpr ⟨(fun z => nomatch z), List.nodup_nil⟩, fun a ha b hb e => c ?_⟩
    rw [List.mem_singleton.mp hb] at e
    rw [← e]; exact ha
theorem wo_updD {D : Addr} {o : HO} (H : Hp) : wo D (upd H D o) = wo D H := by
  funext b
  by_cases e : b = D
  · rw [e]; unfold wo; rw [if_pos rfl, if_pos rfl]
  · rw [wo_ne e, wo_ne e, upd_ne e]
theorem dc2_names {K : PySem.W.Frag} {tl tl1 : TE} {σ : L2.St} {H : Hp} {j1 j2 : Nat} {L1 : List Str} {U : List Str} {Q : VK} (f : Str → List Str) (hl : ∀ R : VK, (∀ S H1, Ex H H1 → H1 S = some (.lst (L1.map V.str)) → R (.ref S) H1) → tl σ H R) (few : U.length ≤ 40000) (hU : ∀ n ∈ L1, ∀ y ∈ f n, y ∈ U)
    (h1 : ∀ n ∈ L1, ∀ H1, Ex H H1 → EvL tl1 ((wipe σ [j1, j2]).set j1 (some (.str n))) H1 ((f n).map V.str))
    (w0 : ∀ x, wipe ((wipe σ [j1, j2]).set j1 (some x)) [j1, j2] = wipe σ [j1, j2]) (w1 : ∀ x y, wipe ((wipe ((wipe σ [j1, j2]).set j1 (some x)) [j2]).set j2 (some y)) [j2] = wipe ((wipe σ [j1, j2]).set j1 (some x)) [j2])
    (v1 : ∀ x y, ((wipe ((wipe σ [j1, j2]).set j1 (some x)) [j2]).set j2 (some y))[j2]? = some (some y))
    (q : ∀ D H' ks, H D = none → Ex H H' → ks.Nodup → (∀ y, y ∈ ks ↔ ∃ n ∈ L1, y ∈ f n) → H' D = some (.dK (kvHd ks)) → Q (.ref D) H') :
    tDc2 (iList K tl) (gName j1) tYes (iList K tl1) (gName j2) tYes (tVar j2) (tC (.bl true)) [j1, j2] [j2] σ H Q := by
  refine hl _ fun S H1 e1 hS => ⟨S, rfl, ⟨_, sq_of hS⟩, fun D zD => ?_⟩
  have zD0 : H D = none := fresh_back e1 zD
  have SD : S ≠ D := ne_of_none hS zD
  have kU : ∀ {ks : List Str}, ks.Nodup → (∀ y ∈ ks, y ∈ U) → (kvHd ks).length < sizeLine := fun {ks} n m => by
    have := pigeon n m
    unfold kvHd
    rw [List.length_map, sizeLine_eq]
    omega
  refine w0_it (walk_list (K := K) (a := S) (xs := L1.map V.str)) (fun i H' => Ex H1 (wo D H') ∧ ∃ ks : List Str, H' D = some (.dK (kvHd ks)) ∧ ks.Nodup ∧ ∀ y, y ∈ ks ↔ ∃ n ∈ L1.take i, y ∈ f n)
    ⟨by rw [wo_updD]; exact fun b o hb => by rw [wo_ne (ne_of_none hb zD)]; exact hb, [], upd_same, List.nodup_nil, fun y => ⟨(fun z => nomatch z), fun ⟨n, hn, _⟩ => by rw [List.take_zero] at hn; cases hn⟩⟩
    (fun i H' _ h => sq_of ((h.1.trans (wo_ex D H')) _ _ hS)) ?_ fun H' h => ?_
  · rintro i v H5 H5' hi ⟨e5, ks, hD, hn, hm⟩ ⟨rfl, hy⟩
    rw [List.length_map] at hi
    rw [List.getElem?_map, List.getElem?_eq_getElem hi] at hy
    cases hy
    have mem := List.getElem_mem hi
    have htk : L1.take (i + 1) = L1.take i ++ [L1[i]] := List.take_succ_eq_append_getElem hi
    have tkm : ∀ n ∈ L1.take i, n ∈ L1 := fun n hn => List.mem_of_mem_take hn
    rw [htk]
    generalize L1[i] = nm at mem
    refine ⟨w0 _, ?_⟩
    unfold tYes
    dsimp only
    rw [if_pos rfl]
    have ex5 : Ex H H5' := e1.trans (e5.trans (wo_ex D H5'))
    refine h1 nm mem H5' ex5 H5' (Ex.refl _) _ fun S2 H6 zS2 e6 hS2 => ⟨S2, rfl, ⟨_, sq_of hS2⟩, ?_⟩
    have hD6 := e6 _ _ hD
    have S2D : S2 ≠ D := (ne_of_none hD zS2).symm
    have fmem : ∀ y ∈ f nm, y ∈ U := hU nm mem
    refine w1_it (walk_list (K := K) (a := S2) (xs := (f nm).map V.str)) (fun j H' => Ex (wo D H6) (wo D H') ∧ ∃ ks2 : List Str, H' D = some (.dK (kvHd ks2)) ∧ ks2.Nodup ∧ ∀ y, y ∈ ks2 ↔ ((∃ n ∈ L1.take i, y ∈ f n) ∨ y ∈ (f nm).take j))
      ⟨Ex.refl _, ks, hD6, hn, fun y => by rw [List.take_zero]; exact ⟨fun z => .inl ((hm y).mp z), fun z => z.elim (hm y).mpr fun y => nomatch y⟩⟩ (fun j H' _ h => sq_of (wo_ex D H' _ _ (h.1 _ _ (by rw [wo_ne S2D]; exact hS2)))) ?_ fun H' h => ?_
    · rintro j u H7 H7' hj ⟨e7, ks2, hD2, hn2, hm2⟩ ⟨rfl, hy2⟩
      rw [List.length_map] at hj
      rw [List.getElem?_map, List.getElem?_eq_getElem hj] at hy2
      cases hy2
      have mem2 := List.getElem_mem hj
      have htk2 : (f nm).take (j + 1) = (f nm).take j ++ [(f nm)[j]] := List.take_succ_eq_append_getElem hj
      have tkm2 : ∀ y ∈ (f nm).take j, y ∈ f nm := fun n hn => List.mem_of_mem_take hn
      rw [htk2]
      generalize (f nm)[j] = y0 at mem2
      refine ⟨w1 _ _, ?_⟩
      show (if (true : Bool) = true then _ else _)
      rw [if_pos rfl]
      refine ⟨.str y0, v1 _ _, kvHd ks2, .inr y0, rfl, hD2, kU hn2 fun y hy => ((hm2 y).mp hy).elim (fun ⟨n, h1, h2⟩ => hU n (tkm n h1) y h2) fun z => fmem y (tkm2 y z), ?_, hdAdd ks2 y0, ?_, hdAdd_nodup hn2, fun y => ?_⟩
      · rw [wo_updD]; exact e7
      · rw [upd_same, kvHd_put]
      · rw [mem_hdAdd, hm2 y, List.mem_append, List.mem_singleton, or_assoc]
    · obtain ⟨e7, ks2, hD2, hn2, hm2⟩ := h
      refine ⟨e5.trans ((Ex.wo e6).trans e7), ks2, hD2, hn2, fun y => (hm2 y).trans ?_⟩
      rw [List.length_map, List.take_length]
      constructor
      · rintro (⟨n, h1, h2⟩ | h)
        · exact ⟨n, List.mem_append_left _ h1, h2⟩
        · exact ⟨nm, List.mem_append_right _ (List.mem_singleton.mpr rfl), h⟩
      · rintro ⟨n, h1, h2⟩
        rcases List.mem_append.mp h1 with z | z
        · exact .inl ⟨n, z, h2⟩
        · rw [List.mem_singleton.mp z] at h2; exact .inr h2
  · obtain ⟨e5, ks, hD, hn, hm⟩ := h
    refine q D H' ks zD0 (e1.trans (e5.trans (wo_ex D H'))) hn (fun y => (hm y).trans ?_) hD
    rw [List.length_map, List.take_length]
end Cr
/-! graphs of needs: the sources of a name -/
namespace Cr
open PySem PySem.Spec PyProof.Rows L2 Evl
abbrev sNSrc : Stmt := inClass (topS 18) 12
theorem scNSrc : FnScope nNSrc ["self", "name"] (defScope sNSrc) := ⟨rfl, rfl, rfl, by decide +kernel, rfl, by decide +kernel, by decide +kernel⟩
section
variable {P : Program} {w : World} {K : PySem.W.Frag} {mg : Str → Option Value} {base : Heap}
theorem ok_sources {f C : Addr} {fd : FuncData} {k : Nat} (F : Fun K "sources" "Needs.sources" sNSrc f fd) (B : Blt mg) (T : NdC K mg C) (h1 : HasM P w K mg base CX0 k C "is_need" ["self", "source", "target"] (spIsNeed C)) : FnOk P w K mg base CX0 (k + 1) f fd ["self", "name"] (spSources C) := by
  obtain ⟨f1, d1, G1, b1, m1⟩ := h1.ex
  refine F.ok scNSrc (fun vs H Q E h => by obtain ⟨_, _, _, _, _, _, rfl, _⟩ := h; rfl) (fun cdv A outer s H vs Q E hr h => ?_)
  obtain ⟨x, v, d, A', U, g, rfl, nd, hd, hs, q⟩ := h
  refine ⟨_, pss_one (ps_ret (pe_lc (own := [("source", 2)]) (g := gName 2) (tt := tB (tMeth C "is_need" (spIsNeed C) [] E0 (tVar 0) (tCons (tVar 2) (tCons (tVar 1) tNil)))) (te := tVar 2) rfl scNSrc.nd (pi_list (pe_callB (call_sortedD rfl) (by rfl) B.sorted bSorted (pa_cons (pe_fld (pv 0) rfl) pa_nil))) (blkOk_by (own := [("source", 2)]) (N := nNSrc) (sc := defScope sNSrc) (by decide +kernel))
    (fun _ _ _ _ _ => pg_name (i := 2) scNSrc.nd rfl (Or.inl rfl)) (fun _ _ _ _ _ => by exact pts_one (pt_val (pe_meth (E := E0) (pv 0) T.cl m1 G1 hr b1 .nil pass0 (pa_cons (pv 2) (pa_cons (pv 1) pa_nil))))) (fun _ _ _ _ _ => pv 2))), ?_⟩
  have lc := el_lcW (wi := iList K (tCB rSrtD (tCons (tFld K (tVar 0) "needed") tNil))) (g := gName 2) (tt := tB (tMeth C "is_need" (spIsNeed C) [] E0 (tVar 0) (tCons (tVar 2) (tCons (tVar 1) tNil)))) (te := tVar 2) (vs := [2])
    (σ := [some (.ref x), some v, none]) (H := H) (n := (srcs g).length) (Y := YAt ((srcs g).map V.str)) (fun i => isNd g (.str ((srcs g).getD i "")) d) (fun i => .str ((srcs g).getD i "")) (by have := srcs_len nd.ok; omega)
    (fun H1 e1 R r => el_srcs T (nd.ex e1) (ev_var rfl) H1 (Ex.refl H1) _ fun p H2 zp e2 hp => ⟨p, rfl, ⟨_, sq_of hp⟩, r H2 _ _ (by have z := walk_list (K := K) (a := p) (xs := (srcs g).map V.str); rw [List.length_map] at z; exact z) (fun _ _ e z => ex_l e z) e2 (sq_of hp)⟩)
    (fun i y H1 H2 e1 hi hy => by
      obtain ⟨rfl, hy⟩ := hy
      have ey : y = .str ((srcs g).getD i "") := by
        rw [List.getElem?_map, List.getElem?_eq_getElem hi] at hy
        rw [List.getD_eq_getElem?_getD, List.getElem?_eq_getElem hi]
        exact (Option.some.inj hy).symm
      subst ey
      have mem : (srcs g).getD i "" ∈ srcs g := by
        rw [List.getD_eq_getElem?_getD, List.getElem?_eq_getElem hi]
        exact List.getElem_mem hi
      exact ⟨Ex.refl _, [some (.ref x), some v, some (.str ((srcs g).getD i ""))], rfl, fun R r => r, et_B (ev_meth (ev_var rfl) (e1 _ _ nd.ob) rfl (ea_cons (ev_var rfl) (ea_cons (ev_var rfl) ea_nil)) (spv_isNeed (nd.ex e1) (.str _) (Dt.ex e1 hd) (sm_name (srcs_name nd.ok mem)) hs)), fun _ => ev_var rfl⟩)
  have eg : given (srcs g).length (fun i => isNd g (.str ((srcs g).getD i "")) d) (fun i => V.str ((srcs g).getD i "")) = (srcD g d).map V.str := by
    unfold given srcD
    have e1 : srcs g = (List.range (srcs g).length).map fun i => (srcs g).getD i "" := by
      refine List.ext_getElem? fun i => ?_
      rw [List.getElem?_map]
      by_cases hi : i < (srcs g).length
      · rw [List.getElem?_range hi, List.getElem?_eq_getElem hi]
        show _ = some ((srcs g).getD i "")
        rw [List.getD_eq_getElem?_getD, List.getElem?_eq_getElem hi]
        rfl
      · rw [List.getElem?_eq_none (by omega), List.getElem?_eq_none (by rw [List.length_range]; omega)]
        rfl
    conv => rhs; rw [e1, List.filter_map, List.map_map]
    rfl
  rw [eg] at lc
  exact s_retL lc q
end
end Cr
/-! xs[:] = ys -/
/-! dict([(name, a new list) for name in names]); list.remove of a pair -/
namespace Cr
open PySem PySem.Spec PyProof.Rows L2 Evl
/-- a dict of lists of names, by names -/
def NmD (H : Hp) (d : Addr) (ns : List Str) (f : Str → List Str) : Prop := ∃ kvs, H d = some (.dK kvs) ∧ ∀ n ∈ ns, ∃ L, valV kvs (.inr n) = some (.ref L) ∧ H L = some (.lst ((f n).map V.str))
theorem NmD.ex {H H' : Hp} {d : Addr} {ns : List Str} {f : Str → List Str} (h : NmD H d ns f) (e : Ex H H') : NmD H' d ns f := by
  obtain ⟨kvs, h1, h2⟩ := h
  exact ⟨kvs, e _ _ h1, fun n hn => by obtain ⟨L, a, b⟩ := h2 n hn; exact ⟨L, a, e _ _ b⟩⟩
/-! ### list.remove of a pair -/
end Cr
/-! a dict of rows that are all new -/
namespace Cr
open PySem PySem.Spec PyProof.Rows L2 Evl
theorem putK_new {kvs : List (Key × V)} {k : Key} {v : V} (h : k ∉ kvs.map (·.1)) : putK kvs k v = kvs ++ [(k, v)] := by
  unfold putK
  rw [if_neg]
  intro z
  obtain ⟨kv, h1, h2⟩ := List.any_eq_true.mp z
  exact h (List.mem_map.mpr ⟨kv, h1, of_decide_eq_true h2⟩)
end Cr
/-! dict([(name, a value) for name in names]), name by name -/
/-! names and pairs of names can be laid out -/
namespace Cr
open PySem PySem.Spec PyProof.Rows L2 Evl
theorem nm_sok {x : Str} (h : isNameS x = true) : PyData.strOk x = true := by
  unfold isNameS at h
  simp only [Bool.and_eq_true, decide_eq_true_eq] at h
  unfold PyData.strOk
  rw [Array.all_eq_true_iff_forall_mem]
  intro c hc
  have y := List.all_eq_true.mp h.2 c (by simpa using hc)
  unfold isLow at y
  simp only [Bool.and_eq_true, decide_eq_true_eq] at y
  exact decide_eq_true (by omega)
end Cr
/-! what can be reached along pairs -/
/-! what a graph answers: lists and pairs -/
/-! lists of names shown, lists of pairs sorted -/
/-! the law's own reach -/
/-! data of tuples only -/
namespace Cr
open PySem PySem.Spec PyProof.Rows L2 Evl
/-! ### data of tuples stays where tuples stay -/
mutual
def tupO : PyData → Bool
  | .tuple xs => tupOA xs
  | .list _ => false
  | .dict _ => false
  | _ => true
def tupOA : List PyData → Bool
  | [] => true
  | x :: xs => tupO x && tupOA xs
end
mutual
theorem Dt.tps {H H' : Hp} (e : Tps H H') : ∀ {v : V} {d : PyData}, tupO d = true → Dt H v d → Dt H' v d
  | _, _, _, .non => .non
  | _, _, _, .bl b => .bl b
  | _, _, _, .int i => .int i
  | _, _, _, .str x => .str x
  | _, _, z, .lst h a => by rw [tupO] at z; cases z
  | _, _, z, .tup h a => .tup (e _ _ h) (DtAll.tps e (by rw [tupO] at z; exact z) a)
  | _, _, z, .dct h a => by rw [tupO] at z; cases z
theorem DtAll.tps {H H' : Hp} (e : Tps H H') : ∀ {vs : List V} {ds : List PyData}, tupOA ds = true → DtAll H vs ds → DtAll H' vs ds
  | _, _, _, .nil => .nil
  | _, _, z, .cons a b => by
    rw [tupOA, Bool.and_eq_true] at z
    exact .cons (Dt.tps e z.1 a) (DtAll.tps e z.2 b)
end
theorem tupOA_all {ds : List PyData} (h : ∀ d ∈ ds, tupO d = true) : tupOA ds = true := by
  induction ds with
  | nil => rfl
  | cons d ds ih =>
    rw [tupOA, h d List.mem_cons_self, ih fun x hx => h x (List.mem_cons_of_mem _ hx)]
    rfl
end Cr
/-! the law's own world: how it stands in the heap -/
namespace Cr
open PySem PySem.Spec PyProof.Rows L2 Evl
structure WdA where
  dw : Addr
  aM : Addr
  aS : Addr
  aX : Addr
  aN : Addr
  aR : Addr
  aE : Addr
  aH : Addr
  aC : Addr
  aT : Addr
structure Wd where
  st : List (Str × Str)
  ex : XRows
  nd : List Pr
  rc : List Pr
  ea : List Pr
  hd : List Str
  ch : CRows
def kvWd (A : WdA) : List (Key × V) := [(.inr "modules", .ref A.aM), (.inr "states", .ref A.aS), (.inr "exports", .ref A.aX), (.inr "needs", .ref A.aN), (.inr "recorded", .ref A.aR), (.inr "early", .ref A.aE), (.inr "held", .ref A.aH), (.inr "chains", .ref A.aC), (.inr "threads", .ref A.aT)]
def segW (A : WdA) (W : Wd) : Nat → List Addr
  | 0 => [A.dw]
  | 1 => [A.aS]
  | 2 => A.aX :: W.ex.map xAd
  | 3 => [A.aN]
  | 4 => [A.aR]
  | 5 => [A.aE]
  | 6 => [A.aH]
  | 7 => A.aC :: W.ch.map cAd
  | _ => []
def ownW (A : WdA) (W : Wd) : List Addr := (List.range 8).flatMap (segW A W)
theorem mem_ownW {A : WdA} {W : Wd} {a : Addr} : a ∈ ownW A W ↔ ∃ i, a ∈ segW A W i := by
  unfold ownW
  rw [List.mem_flatMap]
  constructor
  · rintro ⟨i, _, h⟩
    exact ⟨i, h⟩
  · rintro ⟨i, h⟩
    by_cases hi : i < 8
    · exact ⟨i, List.mem_range.mpr hi, h⟩
    · match i, hi, h with
      | 0, hi, _ | 1, hi, _ | 2, hi, _ | 3, hi, _ | 4, hi, _ | 5, hi, _ | 6, hi, _ | 7, hi, _ => exact absurd (by decide) hi
      | n + 8, _, h => exact nomatch h
/-- a list of pairs -/
def PsAt (H : Hp) (a : Addr) (ps : List Pr) : Prop := ∃ xs, H a = some (.lst xs) ∧ DtAll H xs (ps.map pD)
theorem pairs_tup (ps : List Pr) : tupOA (ps.map pD) = true := tupOA_all fun d hd => by
  obtain ⟨q, _, rfl⟩ := List.mem_map.mp hd
  rfl
theorem PsAt.but {H H' : Hp} {a : Addr} {ps : List Pr} {l : List Addr} (h : PsAt H a ps) (b : But l H H') (n : a ∉ l) (t : Tps H H') : PsAt H' a ps := by
  obtain ⟨xs, h1, h2⟩ := h
  exact ⟨xs, b _ _ n h1, DtAll.tps t (pairs_tup ps) h2⟩
theorem PsAt.ex {H H' : Hp} {a : Addr} {ps : List Pr} (h : PsAt H a ps) (e : Ex H H') : PsAt H' a ps := by
  obtain ⟨xs, h1, h2⟩ := h
  exact ⟨xs, e _ _ h1, DtAll.ex e h2⟩
theorem PsAt.dt {H : Hp} {a : Addr} {ps : List Pr} (h : PsAt H a ps) : Dt H (.ref a) (.list (ps.map pD)) := by
  obtain ⟨xs, h1, h2⟩ := h
  exact .lst h1 h2
theorem PsAt.of {H : Hp} {a : Addr} {ps : List Pr} (h : Dt H (.ref a) (.list (ps.map pD))) : PsAt H a ps := by
  obtain ⟨b, xs, e, h1, h2⟩ := dt_lst h
  cases e
  exact ⟨xs, h1, h2⟩
theorem PsAt.some {H : Hp} {a : Addr} {ps : List Pr} (h : PsAt H a ps) : ∃ xs, H a = Option.some (HO.lst xs) := by
  obtain ⟨xs, h1, _⟩ := h
  exact ⟨xs, h1⟩
/-- what is held, and the chains -/
structure ZAt (H : Hp) (aH aC : Addr) (hd : List Str) (ch : CRows) : Prop where
  hH : H aH = some (.lst (hd.map V.str))
  hC : H aC = some (.dK (kvCh ch))
  hCi : ∀ r ∈ ch, H r.2.1 = some (.lst (r.2.2.map V.str))
  cn : (ch.map (·.1)).Nodup
theorem ZAt.but {H H' : Hp} {aH aC : Addr} {hd : List Str} {ch : CRows} {l : List Addr} (z : ZAt H aH aC hd ch) (b : But l H H') (n6 : aH ∉ l) (n7 : ∀ a ∈ aC :: ch.map cAd, a ∉ l) : ZAt H' aH aC hd ch :=
  ⟨b _ _ n6 z.hH, b _ _ (n7 _ List.mem_cons_self) z.hC, fun r hr => b _ _ (n7 _ (List.mem_cons_of_mem _ (List.mem_map_of_mem (f := cAd) hr))) (z.hCi r hr), z.cn⟩
structure WdAt (H : Hp) (A : WdA) (ns : List Str) (W : Wd) : Prop where
  hw : H A.dw = some (.dK (kvWd A))
  hS : H A.aS = some (.dK (kvSt W.st))
  hX : H A.aX = some (.dK (kvX W.ex))
  hXi : ∀ r ∈ W.ex, H r.2.1 = some (.dK (kvInt r.2.2))
  hN : PsAt H A.aN W.nd
  hR : PsAt H A.aR W.rc
  hE : PsAt H A.aE W.ea
  hZ : ZAt H A.aH A.aC W.hd W.ch
  nd : ∀ i j a, a ∈ segW A W i → a ∈ segW A W j → i = j
  nn : ∀ i, (segW A W i).Nodup
  un : ns.Nodup
  st : W.st.map (·.1) = ns
  ex : W.ex.map (·.1) = ns
  xi : ∀ r ∈ W.ex, (r.2.2.map (·.1)).Nodup
section
variable {H H' : Hp} {A A' : WdA} {ns : List Str} {W W' : Wd} {l : List Addr}
theorem WdAt.seg_some (h : WdAt H A ns W) : ∀ i, ∀ a ∈ segW A W i, ∃ o, H a = some o ∧ (∀ ys, o ≠ .tup ys) ∧ (∀ C dx fs, o ≠ .ins C dx fs) ∧ ∀ g, o ≠ .ext g := fun i a ha => by
  match i, ha with
  | 0, ha =>
    rw [List.mem_singleton.mp ha]
    exact ⟨_, h.hw, (fun ys z => nomatch z), (fun C dx fs z => nomatch z), fun g z => nomatch z⟩
  | 1, ha =>
    rw [List.mem_singleton.mp ha]
    exact ⟨_, h.hS, (fun ys z => nomatch z), (fun C dx fs z => nomatch z), fun g z => nomatch z⟩
  | 2, ha =>
    rcases List.mem_cons.mp ha with rfl | ha
    · exact ⟨_, h.hX, (fun ys z => nomatch z), (fun C dx fs z => nomatch z), fun g z => nomatch z⟩
    · obtain ⟨r, hr, rfl⟩ := List.mem_map.mp ha
      exact ⟨_, h.hXi r hr, (fun ys z => nomatch z), (fun C dx fs z => nomatch z), fun g z => nomatch z⟩
  | 3, ha =>
    rw [List.mem_singleton.mp ha]
    obtain ⟨xs, z⟩ := h.hN.some
    exact ⟨_, z, (fun ys z => nomatch z), (fun C dx fs z => nomatch z), fun g z => nomatch z⟩
  | 4, ha =>
    rw [List.mem_singleton.mp ha]
    obtain ⟨xs, z⟩ := h.hR.some
    exact ⟨_, z, (fun ys z => nomatch z), (fun C dx fs z => nomatch z), fun g z => nomatch z⟩
  | 5, ha =>
    rw [List.mem_singleton.mp ha]
    obtain ⟨xs, z⟩ := h.hE.some
    exact ⟨_, z, (fun ys z => nomatch z), (fun C dx fs z => nomatch z), fun g z => nomatch z⟩
  | 6, ha =>
    rw [List.mem_singleton.mp ha]
    exact ⟨_, h.hZ.hH, (fun ys z => nomatch z), (fun C dx fs z => nomatch z), fun g z => nomatch z⟩
  | 7, ha =>
    rcases List.mem_cons.mp ha with rfl | ha
    · exact ⟨_, h.hZ.hC, (fun ys z => nomatch z), (fun C dx fs z => nomatch z), fun g z => nomatch z⟩
    · obtain ⟨r, hr, rfl⟩ := List.mem_map.mp ha
      exact ⟨_, h.hZ.hCi r hr, (fun ys z => nomatch z), (fun C dx fs z => nomatch z), fun g z => nomatch z⟩
  | n + 8, ha => exact nomatch ha
theorem WdAt.own_some (h : WdAt H A ns W) {a : Addr} (ha : a ∈ ownW A W) : ∃ o, H a = some o ∧ (∀ ys, o ≠ .tup ys) ∧ (∀ C dx fs, o ≠ .ins C dx fs) ∧ ∀ g, o ≠ .ext g := by
  obtain ⟨i, hi⟩ := mem_ownW.mp ha
  exact h.seg_some i a hi
theorem WdAt.tps (h : WdAt H A ns W) (b : But (ownW A W) H H') : Tps H H' := tps_own b fun a ha ys z => by
  obtain ⟨o, h1, h2, _⟩ := h.own_some ha
  rw [z] at h1
  cases h1
  exact h2 _ rfl
theorem WdAt.but (h : WdAt H A ns W) (b : But l H H') (t : Tps H H') (n : ∀ a ∈ ownW A W, a ∉ l) : WdAt H' A ns W := by
  have m : ∀ i, ∀ a ∈ segW A W i, a ∉ l := fun i a ha => n a (mem_ownW.mpr ⟨i, ha⟩)
  exact ⟨b _ _ (m 0 _ (by show A.dw ∈ [A.dw]; simp)) h.hw, b _ _ (m 1 _ (by show A.aS ∈ [A.aS]; simp)) h.hS, b _ _ (m 2 _ List.mem_cons_self) h.hX, fun r hr => b _ _ (m 2 _ (List.mem_cons_of_mem _ (List.mem_map_of_mem (f := xAd) hr))) (h.hXi r hr),
    h.hN.but b (m 3 _ (by show A.aN ∈ [A.aN]; simp)) t, h.hR.but b (m 4 _ (by show A.aR ∈ [A.aR]; simp)) t, h.hE.but b (m 5 _ (by show A.aE ∈ [A.aE]; simp)) t, h.hZ.but b (m 6 _ (by show A.aH ∈ [A.aH]; simp)) (m 7), h.nd, h.nn, h.un, h.st, h.ex, h.xi⟩
theorem WdAt.exH (h : WdAt H A ns W) (e : Ex H H') : WdAt H' A ns W := h.but (l := []) (But.of e) (Ex.tps e) fun a _ z => nomatch z
theorem WdAt.off (h : WdAt H A ns W) {i j : Nat} (hl : ∀ a ∈ l, a ∈ segW A W i) (ne : j ≠ i) : ∀ a ∈ segW A W j, a ∉ l := fun a ha z => ne (h.nd j i a ha (hl a z))
/-- what a change leaves -/
def WdTo (H H' : Hp) (A : WdA) (ns : List Str) (W : Wd) (A' : WdA) (W' : Wd) : Prop := WdAt H' A' ns W' ∧ But (ownW A W) H H' ∧ (∀ a ∈ ownW A' W', a ∈ ownW A W ∨ H a = none) ∧ A'.dw = A.dw ∧ A'.aM = A.aM
theorem WdTo.refl (h : WdAt H A ns W) : WdTo H H A ns W A W := ⟨h, But.refl H, fun a ha => .inl ha, rfl, rfl⟩
theorem WdTo.ex {H2 : Hp} (h : WdTo H H' A ns W A' W') (e : Ex H' H2) : WdTo H H2 A ns W A' W' := ⟨h.1.exH e, h.2.1.trans (But.of e), h.2.2⟩
theorem WdTo.trans {A2 A3 : WdA} {W2 W3 : Wd} {H2 H3 : Hp} (h : WdTo H H2 A ns W A2 W2) (k : WdTo H2 H3 A2 ns W2 A3 W3) : WdTo H H3 A ns W A3 W3 := by
  refine ⟨k.1, fun a o ha ho => ?_, fun a ha => ?_, k.2.2.2.1.trans h.2.2.2.1, k.2.2.2.2.trans h.2.2.2.2⟩
  · refine k.2.1 a o (fun z => ?_) (h.2.1 a o ha ho)
    rcases h.2.2.1 a z with z | z
    · exact ha z
    · rw [ho] at z; cases z
  · rcases k.2.2.1 a ha with z | z
    · exact h.2.2.1 a z
    · by_cases hm : a ∈ ownW A W
      · exact .inl hm
      · refine .inr ?_
        cases hh : H a with
        | none => rfl
        | some o =>
          have y := h.2.1 a o hm hh
          rw [z] at y
          cases y
/-- the places of a changed world: new ones in one part only -/
theorem segW_nd {i0 : Nat} (h : WdAt H A ns W) (same : ∀ j, j ≠ i0 → ∀ a ∈ segW A' W' j, a ∈ segW A W j) (new : ∀ a ∈ segW A' W' i0, a ∈ segW A W i0 ∨ H a = none) : (∀ j k a, a ∈ segW A' W' j → a ∈ segW A' W' k → j = k) ∧ ∀ a ∈ ownW A' W', a ∈ ownW A W ∨ H a = none := by
  have one : ∀ {k : Nat} {a : Addr}, k ≠ i0 → a ∈ segW A' W' i0 → a ∈ segW A' W' k → False := fun {k a} ne h1 h2 => by
    have h2 := same k ne a h2
    rcases new a h1 with z | z
    · exact ne (h.nd k i0 a h2 z)
    · obtain ⟨o, h3, _⟩ := h.seg_some k a h2
      rw [z] at h3
      cases h3
  refine ⟨fun j k a h1 h2 => ?_, fun a ha => ?_⟩
  · by_cases e1 : j = i0
    · by_cases e2 : k = i0
      · rw [e1, e2]
      · rw [e1] at h1
        exact (one e2 h1 h2).elim
    · by_cases e2 : k = i0
      · rw [e2] at h2
        exact (one e1 h2 h1).elim
      · exact h.nd j k a (same j e1 a h1) (same k e2 a h2)
  · obtain ⟨j, hj⟩ := mem_ownW.mp ha
    by_cases e : j = i0
    · rw [e] at hj
      exact (new a hj).imp (fun z => mem_ownW.mpr ⟨i0, z⟩) id
    · exact .inl (mem_ownW.mpr ⟨j, same j e a hj⟩)
end
end Cr
/-! the law's own world: changes -/
namespace Cr
open PySem PySem.Spec PyProof.Rows L2 Evl
theorem dput_pairs {H : Hp} {a k : Addr} {kvs : List (Key × V)} {m : Str} {v : V} (h : H a = some (.dK kvs)) (l : kvs.length < 1000) : DPut H a (.str m) v (upd H a (.dK (putK kvs (.inr m) v))) := DPut.k (k := Sum.inr m) (v := v) h (by rw [sizeLine_eq]; omega)
section
variable {H H' : Hp} {A A' : WdA} {ns : List Str} {W W' : Wd} {l : List Addr}
theorem wseg {i : Nat} {a : Addr} (h : a ∈ segW A W i) : a ∈ ownW A W := mem_ownW.mpr ⟨i, h⟩
theorem segW_same (h : ∀ i, (segW A W i).Nodup) (e : ∀ i, segW A' W' i = segW A W i) (i : Nat) : (segW A' W' i).Nodup := by rw [e i]; exact h i
/-- a state is put -/
theorem WdAt.putS (h : WdAt H A ns W) (few : ns.length ≤ 100) {m v : Str} (hm : m ∈ ns) : DPut H A.aS (.str m) (.str v) (upd H A.aS (.dK (kvSt (putA W.st m v)))) ∧ WdTo H (upd H A.aS (.dK (kvSt (putA W.st m v)))) A ns W A { W with st := putA W.st m v } := by
  have ks : (putA W.st m v).map (·.1) = ns := by rw [putA_keys, if_pos (by rw [h.st]; exact hm)]; exact h.st
  have hl : ∀ a ∈ [A.aS], a ∈ segW A W 1 := fun a ha => ha
  have b : But [A.aS] H (upd H A.aS (.dK (kvSt (putA W.st m v)))) := (But.refl H).upd (by simp)
  obtain ⟨nd, nw⟩ := segW_nd (A' := A) (W' := { W with st := putA W.st m v }) (i0 := 1) h (fun j _ a ha => by
    match j, ha with
    | 0, ha | 1, ha | 2, ha | 3, ha | 4, ha | 5, ha | 6, ha | 7, ha => exact ha
    | n + 8, ha => exact nomatch ha) (fun a ha => .inl ha)
  have t : Tps H (upd H A.aS (.dK (kvSt (putA W.st m v)))) := tps_own b fun a ha ys z => by
    rw [List.mem_singleton.mp ha, h.hS] at z
    cases z
  refine ⟨?_, ⟨b _ _ (h.off hl (j := 0) (by decide) _ (by show A.dw ∈ [A.dw]; simp)) h.hw, upd_same, b _ _ (h.off hl (j := 2) (by decide) _ List.mem_cons_self) h.hX, fun r hr => b _ _ (h.off hl (j := 2) (by decide) _ (List.mem_cons_of_mem _ (List.mem_map_of_mem (f := xAd) hr))) (h.hXi r hr),
    h.hN.but b (h.off hl (j := 3) (by decide) _ (by show A.aN ∈ [A.aN]; simp)) t, h.hR.but b (h.off hl (j := 4) (by decide) _ (by show A.aR ∈ [A.aR]; simp)) t, h.hE.but b (h.off hl (j := 5) (by decide) _ (by show A.aE ∈ [A.aE]; simp)) t, h.hZ.but b (h.off hl (j := 6) (by decide) _ (by show A.aH ∈ [A.aH]; simp)) (h.off hl (j := 7) (by decide)), nd, fun i => ?_, h.un, ks, h.ex, h.xi⟩, b.mono fun a ha => wseg (hl a ha), nw, rfl, rfl⟩
  · have z := dput_pairs (k := A.aS) (m := m) (v := .str v) h.hS (by
      unfold kvSt
      rw [List.length_map]
      have := congrArg List.length h.st
      rw [List.length_map] at this
      omega)
    rw [kvSt_put] at z
    exact z
  · exact segW_same h.nn (fun i => by match i with
      | 0 | 1 | 2 | 3 | 4 | 5 | 6 | 7 => rfl
      | n + 8 => rfl) i
/-- the early pairs grow in place -/
theorem WdAt.setE (h : WdAt H A ns W) {xs : List V} {ps : List Pr} (hd : DtAll H xs (ps.map pD)) : WdTo H (upd H A.aE (.lst xs)) A ns W A { W with ea := ps } := by
  have hl : ∀ a ∈ [A.aE], a ∈ segW A W 5 := fun a ha => ha
  have b : But [A.aE] H (upd H A.aE (.lst xs)) := (But.refl H).upd (by simp)
  obtain ⟨nd, nw⟩ := segW_nd (A' := A) (W' := { W with ea := ps }) (i0 := 5) h (fun j _ a ha => by
    match j, ha with
    | 0, ha | 1, ha | 2, ha | 3, ha | 4, ha | 5, ha | 6, ha | 7, ha => exact ha
    | n + 8, ha => exact nomatch ha) (fun a ha => .inl ha)
  have t : Tps H (upd H A.aE (.lst xs)) := tps_own b fun a ha ys z => by
    obtain ⟨zs, y⟩ := h.hE.some
    rw [List.mem_singleton.mp ha, y] at z
    cases z
  refine ⟨⟨b _ _ (h.off hl (j := 0) (by decide) _ (by show A.dw ∈ [A.dw]; simp)) h.hw, b _ _ (h.off hl (j := 1) (by decide) _ (by show A.aS ∈ [A.aS]; simp)) h.hS, b _ _ (h.off hl (j := 2) (by decide) _ List.mem_cons_self) h.hX, fun r hr => b _ _ (h.off hl (j := 2) (by decide) _ (List.mem_cons_of_mem _ (List.mem_map_of_mem (f := xAd) hr))) (h.hXi r hr),
    h.hN.but b (h.off hl (j := 3) (by decide) _ (by show A.aN ∈ [A.aN]; simp)) t, h.hR.but b (h.off hl (j := 4) (by decide) _ (by show A.aR ∈ [A.aR]; simp)) t, ⟨xs, upd_same, DtAll.tps t (pairs_tup ps) hd⟩, h.hZ.but b (h.off hl (j := 6) (by decide) _ (by show A.aH ∈ [A.aH]; simp)) (h.off hl (j := 7) (by decide)), nd, fun i => ?_, h.un, h.st, h.ex, h.xi⟩, b.mono fun a ha => wseg (hl a ha), nw, rfl, rfl⟩
  exact segW_same h.nn (fun i => by match i with
    | 0 | 1 | 2 | 3 | 4 | 5 | 6 | 7 => rfl
    | n + 8 => rfl) i
theorem WdAt.setXi {m l : Str} {a : Addr} {e : Ints} {i : Int} (h : WdAt H A ns W) (hg : getA W.ex m = some (a, e)) : WdTo H (upd H a (.dK (kvInt (putA e l i)))) A ns W A { W with ex := putA W.ex m (a, putA e l i) } := by
  have nx : (W.ex.map (·.1)).Nodup := by rw [h.ex]; exact h.un
  obtain ⟨q1, q2⟩ := putX_ad (e' := putA e l i) nx hg
  have mem := getA_mem hg
  have min : a ∈ W.ex.map xAd := List.mem_map_of_mem (f := xAd) mem
  have nn2 := h.nn 2
  have seg : ∀ j, segW A { W with ex := putA W.ex m (a, putA e l i) } j = segW A W j := fun j => by
    match j with
    | 0 | 1 | 3 | 4 | 5 | 6 | 7 => rfl
    | 2 => show A.aX :: (putA W.ex m (a, putA e l i)).map xAd = _; rw [q1]; rfl
    | n + 8 => rfl
  have naX : A.aX ≠ a := fun z => (List.nodup_cons.mp nn2).1 (by rw [z]; exact min)
  have hl : ∀ b ∈ [a], b ∈ segW A W 2 := fun b hb => by rw [List.mem_singleton.mp hb]; exact List.mem_cons_of_mem _ min
  have b : But [a] H (upd H a (.dK (kvInt (putA e l i)))) := (But.refl H).upd (by simp)
  obtain ⟨nd, nw⟩ := segW_nd (A' := A) (W' := { W with ex := putA W.ex m (a, putA e l i) }) (i0 := 2) h (fun j _ a ha => by rw [seg j] at ha; exact ha) (fun a ha => .inl (by rw [seg 2] at ha; exact ha))
  have t : Tps H (upd H a (.dK (kvInt (putA e l i)))) := tps_own b fun b hb ys z => by
    rw [List.mem_singleton.mp hb, h.hXi _ mem] at z
    cases z
  have e1 : kvX (putA W.ex m (a, putA e l i)) = kvX W.ex := by
    have y : ∀ xs : XRows, kvX xs = (xs.map (·.1)).zipWith (fun n b => ((.inr n : Key), V.ref b)) (xs.map xAd) := fun xs => by
      unfold kvX
      induction xs with
      | nil => rfl
      | cons r xs ih => rw [List.map_cons, List.map_cons, List.map_cons, List.zipWith_cons_cons, ih]; rfl
    rw [y, y, q1, q2]
  refine ⟨⟨b _ _ (h.off hl (j := 0) (by decide) _ (by show A.dw ∈ [A.dw]; simp)) h.hw, b _ _ (h.off hl (j := 1) (by decide) _ (by show A.aS ∈ [A.aS]; simp)) h.hS, ?_, fun r hr => ?_,
    h.hN.but b (h.off hl (j := 3) (by decide) _ (by show A.aN ∈ [A.aN]; simp)) t, h.hR.but b (h.off hl (j := 4) (by decide) _ (by show A.aR ∈ [A.aR]; simp)) t, h.hE.but b (h.off hl (j := 5) (by decide) _ (by show A.aE ∈ [A.aE]; simp)) t, h.hZ.but b (h.off hl (j := 6) (by decide) _ (by show A.aH ∈ [A.aH]; simp)) (h.off hl (j := 7) (by decide)), nd, segW_same h.nn seg, h.un, h.st, q2.trans h.ex, fun r hr => ?_⟩, b.mono fun c hc => wseg (hl c hc), nw, rfl, rfl⟩
  · show (upd H a _) A.aX = some (.dK (kvX (putA W.ex m (a, putA e l i))))
    rw [upd_ne naX, e1]
    exact h.hX
  · rcases mem_putA hr with rfl | ⟨hr, ne⟩
    · exact upd_same
    · have na : r.2.1 ≠ a := fun z => by
        have y := nodup_of_ad (List.nodup_cons.mp nn2).2 hr mem z
        exact ne (by rw [y])
      rw [upd_ne na]
      exact h.hXi r hr
  · rcases mem_putA hr with rfl | ⟨hr, _⟩
    · exact putA_nodup (h.xi _ mem)
    · exact h.xi r hr
end
end Cr
/-! registries: next_round -/
namespace Cr
open PySem PySem.Spec PyProof.Rows L2 Evl
abbrev sRNx : Stmt := inClass (topS 21) 21
abbrev nRNx : List Str := ["self", "sunken", "sinking", "target", "source"]
theorem scRNx : FnScope nRNx ["self", "sunken"] (defScope sRNx) := ⟨rfl, rfl, rfl, by decide +kernel, rfl, by decide +kernel, by decide +kernel⟩
/-- who accessed whom early -/
def eR (R : Rg) (s t : Str) : Bool := decide (t ∈ tgS R.ga s)
/-- lists in the heap, told by their rows -/
structure ChAt (H0 H : Hp) (n : Addr) (rows : CRows) : Prop where
  hn : H n = some (.dK (kvCh rows))
  kn : (rows.map (·.1)).Nodup
  an : (rows.map cAd).Nodup
  ls : ∀ r ∈ rows, H r.2.1 = some (.lst (r.2.2.map V.str)) ∧ H0 r.2.1 = none ∧ r.2.1 ≠ n
def spRNx (C CG : Addr) : Sp := fun vs H Q _ => ∃ x d ks kvs HB A U R, vs = [.ref x, .ref d] ∧ RgAt C CG HB H x A U R ∧ H d = some (.dK kvs) ∧ kvs.map (·.1) = ks.map Sum.inr ∧ ks.Nodup ∧ (∀ t ∈ ks, t ∈ U ∧ ∃ c, chR R t = some c ∧ c.length ≤ 30000) ∧
  ∀ n rows H', H n = none → Ex H H' → ChAt H H' n rows → (∀ s, s ∈ rows.map (·.1) ↔ ∃ t ∈ ks, eR R s t = true) → (∀ r ∈ rows, r.2.2 = r.1 :: (chR R (parF (eR R) ks r.1)).getD []) → Q (.ref n) H'
theorem tg_rowR {g : List Row} {s t : Str} (h : t ∈ tgS g s) : ∃ r, rowOf g s = some r := by
  cases z : rowOf g s with
  | none => unfold tgS at h; rw [z] at h; exact nomatch h
  | some r => exact ⟨r, rfl⟩
theorem tgS_in {U : List Str} {g : List Row} {s t : Str} (h : GOk U g) (m : t ∈ tgS g s) : s ∈ U ∧ t ∈ U := by
  obtain ⟨r, hr⟩ := tg_rowR m
  obtain ⟨a, b⟩ := rowOf_mem hr
  unfold tgS at m
  rw [hr] at m
  exact ⟨by rw [← b]; exact h.nm r a, h.tn r a t m⟩
theorem mem_srcD {U : List Str} {g : List Row} {s t : Str} : s ∈ srcD g (.str t) ↔ t ∈ tgS g s := by
  unfold srcD
  rw [List.mem_filter]
  constructor
  · rintro ⟨_, h2⟩
    exact of_decide_eq_true h2
  · intro m
    refine ⟨?_, decide_eq_true m⟩
    obtain ⟨r, hr⟩ : ∃ r, rowOf g s = some r := by
      cases z : rowOf g s with
      | none => unfold tgS at m; rw [z] at m; exact nomatch m
      | some r => exact ⟨r, rfl⟩
    obtain ⟨a, b⟩ := rowOf_mem hr
    exact (mem_srcs (U := U)).mpr ⟨r, a, b⟩
theorem par_at {e : Str → Str → Bool} {ks : List Str} {s t : Str} {i : Nat} (hi : (srtS ks)[i]? = some t) (he : e s t = true) (no : ∀ u ∈ (srtS ks).take i, e s u = false) : parF e ks s = t := by
  unfold parF
  have lt : i < (srtS ks).length := (List.getElem?_eq_some_iff.mp hi).1
  have f : (srtS ks).find? (e s) = some t := List.find?_eq_some_iff_append.mpr ⟨he, (srtS ks).take i, (srtS ks).drop (i + 1), by
    rw [List.getElem?_eq_getElem lt] at hi
    rw [← Option.some.inj hi, ← List.drop_eq_getElem_cons lt, List.take_append_drop], fun u hu => by rw [no u hu]; rfl⟩
  rw [f]
  rfl
theorem kvCh_new {rows : CRows} {s : Str} {a : Addr} {l : List Str} (h : s ∉ rows.map (·.1)) : putK (kvCh rows) (.inr s) (.ref a) = kvCh (rows ++ [(s, (a, l))]) := by
  rw [putK_new (fun z => h (by
    obtain ⟨q0, hq0, e⟩ := List.mem_map.mp z
    obtain ⟨r, hr, rfl⟩ := List.mem_map.mp hq0
    exact List.mem_map.mpr ⟨r, hr, Sum.inr.inj e⟩))]
  unfold kvCh
  rw [List.map_append]
  rfl
theorem ChAt.ex {H0 H H' : Hp} {n : Addr} {rows : CRows} (h : ChAt H0 H n rows) (e : Ex H H') : ChAt H0 H' n rows := ⟨e _ _ h.hn, h.kn, h.an, fun r hr => ⟨e _ _ (h.ls r hr).1, (h.ls r hr).2⟩⟩
/-- a new row -/
theorem ChAt.add {H0 H : Hp} {n c : Addr} {rows : CRows} {s : Str} {l : List Str} (h : ChAt H0 H n rows) (zc : H c = none) (z0 : H0 c = none) (hs : s ∉ rows.map (·.1)) : ChAt H0 (upd (upd H c (.lst (l.map V.str))) n (.dK (kvCh (rows ++ [(s, (c, l))])))) n (rows ++ [(s, (c, l))]) := by
  have cn : c ≠ n := fun z => by rw [z, h.hn] at zc; cases zc
  have rc : ∀ r ∈ rows, r.2.1 ≠ c := fun r hr z => by
    have y := (h.ls r hr).1
    rw [z, zc] at y
    cases y
  refine ⟨upd_same, ?_, ?_, fun r hr => ?_⟩
  · rw [List.map_append, List.nodup_append]
    refine ⟨h.kn, List.nodup_cons.mpr ⟨(fun z => nomatch z), List.nodup_nil⟩, fun a ha b hb e => hs ?_⟩
    have hb' : b = s := List.mem_singleton.mp hb
    rw [← hb', ← e]; exact ha
  · rw [List.map_append, List.nodup_append]
    refine ⟨h.an, List.nodup_cons.mpr ⟨(fun z => nomatch z), List.nodup_nil⟩, fun a ha b hb e => ?_⟩
    have hb' : b = c := List.mem_singleton.mp hb
    obtain ⟨r, hr, rfl⟩ := List.mem_map.mp ha
    exact rc r hr (e.trans hb')
  · rcases List.mem_append.mp hr with z | z
    · obtain ⟨a, b, d⟩ := h.ls r z
      refine ⟨?_, b, d⟩
      rw [upd_ne d, upd_ne (rc r z)]
      exact a
    · rw [List.mem_singleton.mp z]
      refine ⟨?_, z0, cn⟩
      show (upd _ n _) c = _
      rw [upd_ne cn]
      exact upd_same
section
variable {P : Program} {w : World} {K : PySem.W.Frag} {mg : Str → Option Value} {base : Heap}
theorem ok_rnx {f C CG : Addr} {fd : FuncData} {k : Nat} (F : Fun K "next_round" "Registry.next_round" sRNx f fd) (B : Blt mg) (T : RgC K mg C) (TN : NdC K mg CG) (h5 : HasM P w K mg base CX0 k CG "sources" ["self", "name"] (spSources CG)) : FnOk P w K mg base CX0 (k + 1) f fd ["self", "sunken"] (spRNx C CG) := by
  obtain ⟨f5, d5, G5, b5, mm5⟩ := h5.ex
  refine F.ok scRNx (fun vs H Q E h => by obtain ⟨_, _, _, _, _, _, _, _, rfl, _⟩ := h; rfl) (fun cdv A outer s0 H vs Q E hr h => ?_)
  obtain ⟨x, d, ks, kvs, HB, A', U, R, rfl, rg, hd, hk, nk, kU, q⟩ := h
  have hu := hu_of hr
  refine ⟨_, pss_cons (ps_set (i := 2) scRNx.nd rfl (.inl rfl) pe_dnewK)
    (pss_cons (ps_for PassesOwn.never rfl (pi_list (pe_callB (call_sortedD rfl) (by rfl) B.sorted bSorted (pa_cons (pv 1) pa_nil))) (pg_name (i := 3) scRNx.nd rfl (.inl rfl))
      (pss_one (ps_for PassesOwn.never rfl (pi_list (pe_meth (E := E0) (pe_fld (pv 0) rfl) TN.cl mm5 G5 hr b5 .nil pass0 (pa_cons (pv 3) pa_nil))) (pg_name (i := 4) scRNx.nd rfl (.inl rfl))
        (pss_one (ps_if (pt_cmp (pc_dnotin hu (pv 4) (pv 2))) (pss_one (ps_dput hu (pv 2) (pv 4) (pe_op op_cat (pe_lst (pa_cons (pv 4) pa_nil)) (pe_dget hu (pe_fld (pv 0) rfl) (pv 3) (fun _ _ => rfl))) rfl)) pss_nil)))))
    (pss_one (ps_ret (pv 2)))), ?_⟩
  have lU := rg.wf.u40
  have lk : ks.length ≤ 40 := Nat.le_trans (pigeon nk fun t ht => (kU t ht).1) lU
  refine q_asgAny fun n zn => ?_
  show tSeq _ _ _ [some (.ref x), some (.ref d), some (.ref n), none, none] (upd H n (.dK []))
  have e1 : Ex H (upd H n (.dK [])) := Ex.new zn
  have c1 : ChAt H (upd H n (.dK [])) n [] := ⟨upd_same, List.nodup_nil, List.nodup_nil, fun r hr => nomatch hr⟩
  generalize upd H n (.dK []) = H1 at e1 c1 ⊢
  have so : EvL (tCB (fun xs H Q => ∃ (a : Addr) (kvs : List (Key × V)) (ks : List Str), xs = [.ref a] ∧ Rd H a (.dK kvs) ∧ kvs.map (·.1) = ks.map Sum.inr ∧ ks.length < 64 ∧ ∀ ys p, ys.Perm ks → sortedS ys = true → H p = none → Q (.ref p) (upd H p (.lst (ys.map V.str)))) (tCons (tVar 1) tNil)) [some (.ref x), some (.ref d), some (.ref n), none, none] H1 ((srtS ks).map V.str) := fun H2 e2 Q' q' =>
    ⟨.ref d, rfl, d, kvs, ks, rfl, .inl ((e1.trans e2) _ _ hd), hk, by omega, fun ys S hp2 hs2 zS => by
      rw [sorted_is hp2 hs2]
      exact q' S _ zS (Ex.new zS) upd_same⟩
  have dup : ∀ {Ha : Hp} {c : Addr} {o : HO} {kv : List (Key × V)}, Ex H Ha → Ha c = none → Ex H (upd (upd Ha c o) n (.dK kv)) := fun {Ha c o kv} e zc b ob hb => by
    rw [upd_ne (ne_of_none hb zn), upd_ne (fun z => by rw [z] at hb; have y := e _ _ hb; rw [zc] at y; cases y)]
    exact e _ _ hb
  refine q_forNLn so (fun pl i σ' H' => ∃ (y3 y4 : Option V) (rows : CRows), σ' = [some (.ref x), some (.ref d), some (.ref n), y3, y4] ∧ Ex H H' ∧ ChAt H H' n rows ∧ pl ≠ n ∧ H' pl = some (.lst ((srtS ks).map V.str)) ∧ H pl = none ∧ (∀ s, s ∈ rows.map (·.1) ↔ ∃ t ∈ (srtS ks).take i, eR R s t = true) ∧ ∀ r ∈ rows, r.2.2 = r.1 :: (chR R (parF (eR R) ks r.1)).getD [])
    (fun pl H2 zp e2 hp => ⟨none, none, [], rfl, e1.trans e2, c1.ex e2, (fun z => by rw [z, c1.hn] at zp; cases zp), hp, fresh_back e1 zp, (fun s => by rw [List.take_zero]; exact ⟨(fun z => nomatch z), fun ⟨_, z, _⟩ => nomatch z⟩), fun r hr => nomatch hr⟩)
    (fun pl i σ' H' _ hP => ?_) (fun pl i v σ' H2 hv hP => ?_) (fun pl σ' H2 hP => ?_)
  · obtain ⟨_, _, _, _, _, _, _, h, _⟩ := hP
    exact sq_of h
  · obtain ⟨y3, y4, rows, rfl, e2, ca, pn, hpl, zpl, ksR, chs⟩ := hP
    have hil : i < (srtS ks).length := by
      have := (List.getElem?_eq_some_iff.mp hv).1
      rw [List.length_map] at this
      exact this
    rw [List.getElem?_map, List.getElem?_eq_getElem hil] at hv
    cases hv
    have hti : (srtS ks)[i]? = some (srtS ks)[i] := List.getElem?_eq_getElem hil
    have htk : (srtS ks).take (i + 1) = (srtS ks).take i ++ [(srtS ks)[i]] := List.take_succ_eq_append_getElem hil
    have htm : (srtS ks)[i] ∈ ks := (srtS_perm ks).mem_iff.mp (List.getElem_mem hil)
    rw [htk]
    generalize (srtS ks)[i] = t at hti htk htm
    obtain ⟨tU, ct, hct, lct⟩ := kU t htm
    have rg2 := rg.ex e2
    have nt := rg.wf.un t tU
    show tFor _ _ _ _ [some (.ref x), some (.ref d), some (.ref n), some (.str t), y4] H2
    have sr : EvL (tMeth CG "sources" (spSources CG) [] E0 (tFld K (tVar 0) "accesses") (tCons (tVar 3) tNil)) [some (.ref x), some (.ref d), some (.ref n), some (.str t), y4] H2 ((srcD R.ga (.str t)).map V.str) := fun H3 e3 Q' q' => by
      have rg3 := rg2.ex e3
      exact ⟨.ref x, rfl, x, C, A'.dx, _, .ref A'.gA.x, rfl, rg3.ob, T.cl, T.nA, flR_A A', A'.gA.x, A'.gA.a.dx, _, rfl, rg3.nA.ob, rfl, .str t, rfl, A'.gA.x, .str t, .str t, A'.gA.a, U, R.ga, rfl, rg3.nA, .str t, sm_name nt, fun l H' zl e' hl => q' l H' zl e' hl⟩
    refine s_forNL sr (fun pl2 j σ' H' => ∃ (y4 : Option V) (rows : CRows), σ' = [some (.ref x), some (.ref d), some (.ref n), some (.str t), y4] ∧ Ex H H' ∧ ChAt H H' n rows ∧ H' pl = some (.lst ((srtS ks).map V.str)) ∧ pl2 ≠ n ∧ H' pl2 = some (.lst ((srcD R.ga (.str t)).map V.str)) ∧ (∀ s, s ∈ rows.map (·.1) ↔ ((∃ u ∈ (srtS ks).take i, eR R s u = true) ∨ s ∈ (srcD R.ga (.str t)).take j)) ∧ ∀ r ∈ rows, r.2.2 = r.1 :: (chR R (parF (eR R) ks r.1)).getD [])
      (fun pl2 H3 zp e3 hp => ⟨y4, rows, rfl, e2.trans e3, ca.ex e3, e3 _ _ hpl, (fun z => by rw [z, ca.hn] at zp; cases zp), hp, (fun s => (ksR s).trans ⟨.inl, fun z => z.elim id fun z => by rw [List.take_zero] at z; exact nomatch z⟩), chs⟩)
      (fun pl2 j σ' H' _ hP => ?_) (fun pl2 j v σ' H3 hv hP => ?_) (fun pl2 σ' H3 hP => ?_)
    · obtain ⟨_, _, _, _, _, _, _, h, _⟩ := hP
      exact sq_of h
    · obtain ⟨y4, rows, rfl, e3, ca3, hpl3, pn2, hpl2, ksR3, chs3⟩ := hP
      have hjl : j < (srcD R.ga (.str t)).length := by
        have := (List.getElem?_eq_some_iff.mp hv).1
        rw [List.length_map] at this
        exact this
      rw [List.getElem?_map, List.getElem?_eq_getElem hjl] at hv
      cases hv
      have hjk : (srcD R.ga (.str t)).take (j + 1) = (srcD R.ga (.str t)).take j ++ [(srcD R.ga (.str t))[j]] := List.take_succ_eq_append_getElem hjl
      have hsm := List.getElem_mem hjl
      rw [hjk]
      generalize (srcD R.ga (.str t))[j] = s at hjk hsm
      have hst : t ∈ tgS R.ga s := (mem_srcD (U := U)).mp hsm
      have sU := (tgS_in rg.nA.ok hst).1
      have rg3 := rg.ex e3
      have rowsU : ∀ y ∈ rows.map (·.1), y ∈ U := fun y hy => by
        rcases (ksR3 y).mp hy with ⟨u, _, z⟩ | z
        · exact (tgS_in rg.nA.ok (of_decide_eq_true z)).1
        · exact (tgS_in rg.nA.ok ((mem_srcD (U := U)).mp (List.mem_of_mem_take z))).1
      have rl : rows.length ≤ 40 := by
        have z := pigeon ca3.kn rowsU
        rw [List.length_map] at z
        omega
      show tIfS _ _ _ _ [some (.ref x), some (.ref d), some (.ref n), some (.str t), some (.str s)] H3
      have isk : (valV (kvCh rows) (.inr s)).isSome = decide (s ∈ rows.map (·.1)) := by
        unfold kvCh
        rw [valV_mapA (fun r : Addr × List Str => V.ref r.1), Option.isSome_map, Bool.eq_iff_iff, getA_key, decide_eq_true_eq]
      have nin := et_dnotR (σ := [some (.ref x), some (.ref d), some (.ref n), some (.str t), some (.str s)]) (H := H3) (ty := tVar 4) (td := tVar 2) (x := s) (ev_var rfl) (ev_var rfl) ca3.hn
      rw [isk] at nin
      refine s_when nin (fun hb H4 e4 => ?_) (fun hb H4 e4 => ?_)
      · have hs : s ∉ rows.map (·.1) := by
          rw [Bool.not_eq_true', decide_eq_false_iff_not] at hb
          exact hb
        have no : ∀ u ∈ (srtS ks).take i, eR R s u = false := fun u hu => by
          cases z : eR R s u with
          | false => rfl
          | true => exact absurd ((ksR3 s).mpr (.inl ⟨u, hu, z⟩)) hs
        have par := par_at hti (decide_eq_true hst : eR R s t = true) no
        have ca4 := ca3.ex e4
        have rg4 := rg3.ex e4
        -- the row of the target's chain
        obtain ⟨cr, hcr⟩ : ∃ cr, getA R.ch t = some cr := by
          unfold chR at hct
          obtain ⟨cr, h1, _⟩ := Option.map_eq_some_iff.mp hct
          exact ⟨cr, h1⟩
        have chE : (chR R t).getD [] = cr.2 := by unfold chR; rw [hcr]; rfl
        have cmem := getA_mem hcr
        have cval : valV (kvCh R.ch) (.inr t) = some (.ref cr.1) := by
          unfold kvCh
          rw [valV_mapA (fun r : Addr × List Str => V.ref r.1), hcr]
          rfl
        refine ⟨.str s, rfl, by show 1 ≤ sizeLine; decide, fun a za => ?_⟩
        have ea : Ex H4 (upd H4 a (.lst [.str s])) := Ex.new za
        have ha : (upd H4 a (.lst [.str s])) a = some (.lst [.str s]) := upd_same
        generalize upd H4 a (.lst [.str s]) = H5 at ea ha ⊢
        have rg5 := rg4.ex ea
        refine ev_dgRd (x := t) (v := .ref cr.1) (ev_fld (ev_var rfl) rg5.ob T.cl T.nC (flR_C A')) (ev_var rfl) (.inl rg5.hC) cval H5 (Ex.refl H5) _ fun H6 e6 => ?_
        have hcl := e6 _ _ (rg5.hCi _ cmem)
        have e06 := (((e3.trans e4).trans ea).trans e6)
        have lcr : cr.2.length ≤ 30000 := by
          unfold chR at hct
          rw [hcr] at hct
          have y : cr.2 = ct := Option.some.inj hct
          rw [y]; exact lct
        refine ⟨a, cr.1, _, _, rfl, rfl, e6 _ _ ha, hcl, ?_, fun c zc => ?_⟩
        · rw [List.length_map, sizeLine_eq]
          show 1 + cr.2.length ≤ _
          omega
        have ca6 := (ca4.ex ea).ex e6
        have el : ([V.str s] ++ cr.2.map V.str) = (s :: cr.2).map V.str := rfl
        rw [el]
        have ca7 := ca6.add (c := c) (l := s :: cr.2) zc (fresh_back e06 zc) hs
        have cn : c ≠ n := fun z => by rw [z, ca6.hn] at zc; cases zc
        have hn7 : (upd H6 c (.lst ((s :: cr.2).map V.str))) n = some (.dK (kvCh rows)) := by rw [upd_ne cn.symm]; exact ca6.hn
        have dp := dput_pairs (k := n) (m := s) (v := .ref c) hn7 (by unfold kvCh; rw [List.length_map]; omega)
        rw [kvCh_new (l := s :: cr.2) hs] at dp
        have old : ∀ {b : Addr} {o : HO}, b ≠ n → H3 b = some o → (upd (upd H6 c (.lst ((s :: cr.2).map V.str))) n (.dK (kvCh (rows ++ [(s, (c, s :: cr.2))])))) b = some o := fun {b o} bn hb => by
          have y := ((e4.trans ea).trans e6) _ _ hb
          rw [upd_ne bn, upd_ne (fun z => by rw [z, zc] at y; cases y)]
          exact y
        refine ⟨.ref n, rfl, .str s, rfl, n, _, rfl, dp, some (.str s), rows ++ [(s, (c, s :: cr.2))], rfl, dup e06 zc, ca7, old pn hpl3, pn2, old pn2 hpl2, fun y => ?_, fun r hr => ?_⟩
        · rw [List.map_append, List.mem_append, ksR3 y, List.mem_append, or_assoc]
          exact Iff.rfl
        · rcases List.mem_append.mp hr with z | z
          · exact chs3 r z
          · rw [List.mem_singleton.mp z]
            show s :: cr.2 = s :: (chR R (parF (eR R) ks s)).getD []
            rw [par, chE]
      · have hs : s ∈ rows.map (·.1) := by
          rw [Bool.not_eq_false', decide_eq_true_eq] at hb
          exact hb
        refine ⟨some (.str s), rows, rfl, e3.trans e4, ca3.ex e4, e4 _ _ hpl3, pn2, e4 _ _ hpl2, fun y => ?_, chs3⟩
        rw [ksR3 y, List.mem_append]
        refine ⟨fun z => z.imp id .inl, fun z => z.elim .inl fun z => z.elim .inr fun z => ?_⟩
        rw [List.mem_singleton.mp z]
        exact (ksR3 s).mp hs
    · obtain ⟨y4, rows, rfl, e3, ca3, hpl3, _, _, ksR3, chs3⟩ := hP
      rw [List.length_map, List.take_length] at ksR3
      refine ⟨some (.str t), y4, rows, rfl, e3, ca3, pn, hpl3, zpl, fun s => (ksR3 s).trans ⟨fun z => ?_, fun z => ?_⟩, chs3⟩
      · rcases z with ⟨u, hu, hs⟩ | z
        · exact ⟨u, List.mem_append_left _ hu, hs⟩
        · exact ⟨t, List.mem_append_right _ (List.mem_singleton.mpr rfl), decide_eq_true ((mem_srcD (U := U)).mp z)⟩
      · obtain ⟨u, hu, hs⟩ := z
        rcases List.mem_append.mp hu with y | y
        · exact .inl ⟨u, y, hs⟩
        · rw [List.mem_singleton.mp y] at hs
          exact .inr ((mem_srcD (U := U)).mpr (of_decide_eq_true hs))
  · obtain ⟨y3, y4, rows, rfl, e2, ca, _, _, _, ksR, chs⟩ := hP
    rw [List.length_map, List.take_length] at ksR
    refine s_ret (ev_var rfl) fun H3 e3 => q n rows H3 zn (e2.trans e3) (ca.ex e3) (fun s => (ksR s).trans ⟨fun ⟨t, a, b⟩ => ⟨t, (srtS_perm ks).mem_iff.mp a, b⟩, fun ⟨t, a, b⟩ => ⟨t, (srtS_perm ks).mem_iff.mpr a, b⟩⟩) chs
end
end Cr
/-! registries: fail -/
namespace Cr
open PySem PySem.Spec PyProof.Rows L2 Evl
abbrev sRFa : Stmt := inClass (topS 21) 22
abbrev nRFa : List Str := ["self", "module", "because", "first", "chain", "failed", "sinking", "other"]
theorem scRFa : FnScope nRFa ["self", "module", "because"] (defScope sRFa) := ⟨rfl, rfl, rfl, by decide +kernel, rfl, by decide +kernel, by decide +kernel⟩
def cause0 (R : Rg) (m : Str) (co : Option Str) : List Str := m :: (co.bind (chR R)).getD []
def fallR (U : List Str) (R : Rg) (m : Str) (co : Option Str) : FalS := fallS U (eR R) m (cause0 R m co)
def spRFa (C CG CW : Addr) : Sp := fun vs H Q E => ∃ x m co HB A U R, vs = [.ref x, .str m, srcV co] ∧ RgAt C CG HB H x A U R ∧ m ∈ U ∧ (∀ b, co = some b → b ∈ U) ∧ (∀ y c, chR R y = some c → c.length ≤ 20000) ∧ (∀ b, co = some b → stM R b = "failed" → ∃ c, chR R b = some c) ∧
  (stM R m = "running" → (∀ b, co = some b → stM R b = "failed") → ∀ R' l H', (∀ c o, c ∉ ownR A R → H c = some o → c ≠ l) → l ∉ ownR A R' → RgTo C CG HB H H' x A U R R' → H' l = some (.lst ((srtS (fallR U R m co).F).map V.str)) → FalTo R (fallR U R m co).k (fallR U R m co).F R' → Q (.ref l) H') ∧
  (stM R m ≠ "running" → ∀ dx H', Rsd2 H H' dx "module" "found" (.str m) (.str (stM R m)) → E (.ref CW) (some dx) H') ∧
  (∀ b, co = some b → stM R m = "running" → stM R b ≠ "failed" → ∀ dx H', Rsd2 H H' dx "module" "found" (.str b) (.str (stM R b)) → E (.ref CW) (some dx) H')
theorem fal_long {U : List Str} {e : Str → Str → Bool} {m : Str} {c0 : List Str} : ∀ (i : Nat) (y : Str) (c : List Str), (runF U e m c0 i).k y = some c → c.length ≤ c0.length + i + 1
  | 0, y, c, h => by
    have h : (if y = m then some c0 else none) = some c := h
    split at h
    · cases h; omega
    · cases h
  | i + 1, y, c, h => by
    have h : (if y ∈ nxF U e (runF U e m c0 i).F (runF U e m c0 i).C then some (y :: ((runF U e m c0 i).k (parF e (runF U e m c0 i).C y)).getD []) else (runF U e m c0 i).k y) = some c := h
    split at h
    · cases h
      rw [List.length_cons]
      cases hh : (runF U e m c0 i).k (parF e (runF U e m c0 i).C y) with
      | none => show 0 + 1 ≤ _; omega
      | some c' =>
        have := fal_long i _ c' hh
        show c'.length + 1 ≤ _
        omega
    · have := fal_long i y c h
      omega
/-- what was sunk before a round -/
def preF (U : List Str) (e : Str → Str → Bool) (m : Str) (c0 : List Str) : Nat → List Str
  | 0 => []
  | i + 1 => (runF U e m c0 i).F
theorem pre_app {U : List Str} {e : Str → Str → Bool} {m : Str} {c0 : List Str} : ∀ i, (runF U e m c0 i).F = preF U e m c0 i ++ (runF U e m c0 i).C
  | 0 => rfl
  | _ + 1 => rfl
theorem RgAt.butR {C CG x : Addr} {HB H H' : Hp} {A : RgA} {U : List Str} {R : Rg} {l : List Addr} (h : RgAt C CG HB H x A U R) (b : But l H H') (n1 : ∀ a ∈ ownR A R, a ∉ l) (ni : ∀ a ∈ l, ∀ C dx fs, H a ≠ some (.ins C dx fs)) (nb : ∀ a ∈ l, HB a = none) : RgAt C CG HB H' x A U R := by
  have m : ∀ i, ∀ a ∈ segR A R i, a ∉ l := fun i a ha => n1 a (mem_ownR.mpr ⟨i, ha⟩)
  have obn : ∀ {a C dx fs}, H a = some (.ins C dx fs) → a ∉ l := fun h z => ni _ z _ _ _ h
  exact ⟨b _ _ (obn h.ob) h.ob, b _ _ (m 0 _ (by show A.aS ∈ [A.aS]; simp)) h.hS, b _ _ (m 1 _ List.mem_cons_self) h.hX, fun r hr => b _ _ (m 1 _ (List.mem_cons_of_mem _ (List.mem_map_of_mem (f := xAd) hr))) (h.hXi r hr), b _ _ (m 2 _ List.mem_cons_self) h.hC, fun r hr => b _ _ (m 2 _ (List.mem_cons_of_mem _ (List.mem_map_of_mem (f := cAd) hr))) (h.hCi r hr), b _ _ (m 3 _ (by show A.aH ∈ [A.aH]; simp)) h.hH,
    nd_but h.nN b (obn h.nN.ob) (m 4), nd_but h.nE b (obn h.nE.ob) (m 5), nd_but h.nA b (obn h.nA.ob) (m 6), h.nd, h.nn, h.nb, fun a o z => b a o (fun y => by rw [nb a y] at z; cases z) (h.bx a o z), h.wf⟩
/-- a new object of the method's own changes -/
theorem RgTo.own {C CG x D : Addr} {HB H H' : Hp} {A : RgA} {U : List Str} {R R' : Rg} {o : HO} (h : RgTo C CG HB H H' x A U R R') (rg : RgAt C CG HB H x A U R) (zD : FrR H A R D) (nD : D ∉ ownR A R') (ni : ∀ C dx fs, H' D ≠ some (.ins C dx fs)) : RgTo C CG HB H (upd H' D o) x A U R R' := by
  refine ⟨h.1.butR (l := [D]) ((But.refl H').upd (by simp)) (fun a ha z => nD (by rw [← List.mem_singleton.mp z]; exact ha)) (fun a ha => by rw [List.mem_singleton.mp ha]; exact ni) (fun a ha => by rw [List.mem_singleton.mp ha]; exact zD.hb rg), fun a ob ha ho => ?_, h.2.2⟩
  rw [upd_ne (zD.ne ha ho)]
  exact h.2.1 a ob ha ho
/-- lists of the method's own that are still to be put into the chains -/
structure Wait (A : RgA) (R0 R : Rg) (H0 H : Hp) (k : Str → Option (List Str)) (rows : CRows) : Prop where
  an : (rows.map cAd).Nodup
  ls : ∀ r ∈ rows, H r.2.1 = some (.lst (r.2.2.map V.str)) ∧ FrR H0 A R0 r.2.1 ∧ r.2.1 ∉ ownR A R ∧ k r.1 = some r.2.2
/-- the word of fail's loop -/
structure FaSt (C CG : Addr) (HB H H' : Hp) (x : Addr) (A : RgA) (U : List Str) (R Rk : Rg) (m : Str) (c0 : List Str) (fl D : Addr) (i : Nat) (rows : CRows) (fs : List Str) : Prop where
  to : RgTo C CG HB H H' x A U R Rk
  fal : FalTo R (runF U (eR R) m c0 i).k (preF U (eR R) m c0 i) Rk
  hD : H' D = some (.dK (kvCh rows))
  zD : FrR H A R D
  nD : D ∉ ownR A Rk
  per : (rows.map (·.1)).Perm (runF U (eR R) m c0 i).C
  wt : Wait A R Rk H H' (runF U (eR R) m c0 i).k rows
  rD : ∀ r ∈ rows, r.2.1 ≠ D ∧ r.2.1 ≠ fl
  hfl : H' fl = some (.lst (fs.map V.str))
  zfl : FrR H A R fl
  nfl : fl ∉ ownR A Rk
  flD : fl ≠ D
  pfl : fs.Perm (preF U (eR R) m c0 i)
  ne : ∀ j < i, (runF U (eR R) m c0 j).C ≠ []
theorem srtS_of {xs ys : List Str} (p : xs.Perm ys) : srtS xs = srtS ys := srt_uniq ((srtS_perm xs).trans p) (srtS_le xs)
section
variable {P : Program} {w : World} {K : PySem.W.Frag} {mg : Str → Option Value} {base : Heap}
theorem ok_rfa {f C CG CW : Addr} {fd : FuncData} {k : Nat} (F : Fun K "fail" "Registry.fail" sRFa f fd) (B : Blt mg) (T : RgC K mg C) (h1 : HasM P w K mg base CX0 k C "known" ["self", "value"] (spRKn C CG)) (h2 : HasM P w K mg base (L2.CX P w) k C "check_state" ["self", "module", "state"] (spRCs C CG CW)) (h3 : HasM P w K mg base CX0 k C "sink" ["self", "module", "chain"] (spRSk C CG)) (h4 : HasM P w K mg base CX0 k C "next_round" ["self", "sunken"] (spRNx C CG)) : FnOk P w K mg base (L2.CX P w) (k + 1) f fd ["self", "module", "because"] (spRFa C CG CW) := by
  obtain ⟨f1, d1, G1, b1, mm1⟩ := h1.ex
  obtain ⟨f2, d2, G2, b2, mm2⟩ := h2.ex
  obtain ⟨f3, d3, G3, b3, mm3⟩ := h3.ex
  obtain ⟨f4, d4, G4, b4, mm4⟩ := h4.ex
  refine F.okX scRFa (fun vs H Q E h => by obtain ⟨_, _, _, _, _, _, _, rfl, _⟩ := h; rfl) (fun cdv A outer s0 H vs Q E hr h => ?_)
  obtain ⟨x, m, co, HB, A', U, R, rfl, rg, hm, hco, few, hch, q, qe, qb⟩ := h
  have hu := hu_of hr
  refine ⟨_, pss_cons (ps_set (i := 3) scRFa.nd rfl (.inl rfl) (pe_meth (E := E0) (pv 0) T.cl mm1 G1 hr b1 .nil pass0 (pa_cons (pv 1) pa_nil)))
    (pss_cons (ps_expr (pe_meth (E := E) (pv 0) T.cl mm2 G2 hr b2 .nil (passes_call (takes_of rfl rfl rfl rfl) fun _ _ _ _ h => h) (pa_cons (pv 3) (pa_cons pe_str pa_nil))))
    (pss_cons (ps_set (i := 4) scRFa.nd rfl (.inl rfl) (pe_lst (pa_cons (pv 3) pa_nil)))
    (pss_cut (ps_if (pt_cmpR op_notN (pv 2) pe_non (nomark _))
      (pss_cons (ps_expr (pe_meth (E := E) (pv 0) T.cl mm2 G2 hr b2 .nil (passes_call (takes_of rfl rfl rfl rfl) fun _ _ _ _ h => h) (pa_cons (pe_meth (E := E0) (pv 0) T.cl mm1 G1 hr b1 .nil pass0 (pa_cons (pv 2) pa_nil)) (pa_cons pe_str pa_nil))))
      (pss_one (ps_aug (i := 4) scRFa.nd rfl (.inl rfl) (pe_dget hu (pe_fld (pv 0) rfl) (pv 2) (fun _ _ => rfl)) iop_ext))) pss_nil)
    (pss_cons (ps_set (i := 5) scRFa.nd rfl (.inl rfl) (pe_lst pa_nil))
    (pss_cons (ps_set (i := 6) scRFa.nd rfl (.inl rfl) (pe_disp (pps_cons (pv 3) (pv 4) pps_nil) rfl rfl (by simp) (by decide)))
    (pss_cons (ps_while (passes_of rfl) (pt_cmpR op_gt (pe_callB call_lenD (by rfl) B.len bLen (pa_cons (pv 6) pa_nil)) pe_int (nomark _))
      (pss_cons (ps_lock (ps_for (passes_of rfl) rfl (pi_keys (pv 6)) (pg_name (i := 7) scRFa.nd rfl (.inl rfl)) (pss_one (ps_expr (pe_meth (E := E0) (pv 0) T.cl mm3 G3 hr b3 .nil pass0 (pa_cons (pv 7) (pa_cons (pe_dget hu (pv 6) (pv 7) (fun _ _ => rfl)) pa_nil)))))))
      (pss_cons (ps_aug (i := 5) scRFa.nd rfl (.inl rfl) (pe_callTy (call_listD rfl) (by rfl) B.list bList (pa_cons (pv 6) pa_nil)) iop_ext)
      (pss_one (ps_set (i := 6) scRFa.nd rfl (.inl rfl) (pe_meth (E := E0) (pv 0) T.cl mm4 G4 hr b4 .nil pass0 (pa_cons (pv 6) pa_nil)))))))
    (pss_one (ps_ret (pe_callB cr_sortedS (by rfl) B.sorted bSorted (pa_cons (pv 5) pa_nil)))))))))), ?_⟩
  have lU := rg.wf.u40
  have nU := rise_nodup rg.wf.up
  refine q_asg (ev_known rfl rfl rg hm) fun H1 e1 => ?_
  have rg1 := rg.ex e1
  refine q_dropAny ⟨.ref x, rfl, x, A'.dx, _, rfl, rg1.ob, rfl, .str m, rfl, x, m, "running", HB, A', U, R, rfl, rg1, hm, fun hrun H2 e2 => ?_, fun hne dx H' r => qe hne dx H' (r.back e1)⟩
  have e12 := e1.trans e2
  refine ⟨.str m, rfl, by show 1 ≤ sizeLine; decide, fun c zc => ?_⟩
  show tCut _ _ _ [some (.ref x), some (.str m), some (srcV co), some (.str m), some (.ref c), none, none, none] (upd H2 c (.lst [.str m]))
  have zc0 := fresh_back e12 zc
  have e13 : Ex H (upd H2 c (.lst [.str m])) := e12.trans (Ex.new zc)
  have hc3 : (upd H2 c (.lst [.str m])) c = some (.lst [.str m]) := upd_same
  generalize upd H2 c (.lst [.str m]) = H3 at e13 hc3 ⊢
  -- the cause's chain
  refine q_cut (M := fun σ H' => σ = [some (.ref x), some (.str m), some (srcV co), some (.str m), some (.ref c), none, none, none] ∧ Ex H H' ∧ H' c = some (.lst ((cause0 R m co).map V.str)) ∧ ∀ b, co = some b → stM R b = "failed") ?_ ?_
  · cases co with
    | none =>
      refine s_when (b := false) (et_src (so := none) rfl) (fun z => nomatch z) (fun _ H4 e4 => ?_)
      exact ⟨rfl, e13.trans e4, e4 _ _ hc3, fun b z => nomatch z⟩
    | some b =>
      have hb := hco b rfl
      refine s_when (b := true) (et_src (so := some b) rfl) (fun _ H4 e4 => ?_) (fun z => nomatch z)
      have e14 := e13.trans e4
      have rg4 := rg.ex e14
      refine q_dropAny ⟨.ref x, rfl, x, A'.dx, _, rfl, rg4.ob, rfl, ?_⟩
      refine ev_known (i := 0) (j := 2) rfl rfl rg4 hb H4 (Ex.refl H4) _ fun H5 e5 => ?_
      have e15 := e14.trans e5
      refine ⟨x, b, "failed", HB, A', U, R, rfl, rg.ex e15, hb, fun hfail H6 e6 => ?_, fun hne dx H' r => qb b rfl hrun hne dx H' (r.back e15)⟩
      obtain ⟨cb, hcb⟩ := hch b rfl hfail
      obtain ⟨cr, hcr⟩ : ∃ cr, getA R.ch b = some cr := by
        unfold chR at hcb
        obtain ⟨cr, h1, _⟩ := Option.map_eq_some_iff.mp hcb
        exact ⟨cr, h1⟩
      have chE : chR R b = some cr.2 := by unfold chR; rw [hcr]; rfl
      have cmem := getA_mem hcr
      have cval : valV (kvCh R.ch) (.inr b) = some (.ref cr.1) := by
        unfold kvCh
        rw [valV_mapA (fun r : Addr × List Str => V.ref r.1), hcr]
        rfl
      have e16 := e15.trans e6
      have rg6 := rg.ex e16
      dsimp only
      refine ⟨.ref c, rfl, ?_⟩
      refine ev_dgRd (x := b) (v := .ref cr.1) (ev_fld (ev_var (i := 0) rfl) rg6.ob T.cl T.nC (flR_C A')) (ev_var (i := 2) rfl) (.inl rg6.hC) cval H6 (Ex.refl H6) _ fun H7 e7 => ?_
      have hc7 := ((e4.trans e5).trans (e6.trans e7)) _ _ hc3
      have hcl := e7 _ _ (rg6.hCi _ cmem)
      have lcr := few b cr.2 chE
      refine ⟨c, cr.1, _, _, rfl, rfl, hc7, hcl, by rw [List.length_map, sizeLine_eq]; show 1 + cr.2.length ≤ _; omega, ?_⟩
      have cs : [V.str m] ++ cr.2.map V.str = (cause0 R m (some b)).map V.str := by
        unfold cause0
        rw [show (some b).bind (chR R) = chR R b from rfl, chE]
        rfl
      rw [cs]
      refine ⟨rfl, fun a o ha => ?_, upd_same, fun b' eb => by cases eb; exact hfail⟩
      rw [upd_ne (fun z => by rw [z, zc0] at ha; cases ha)]
      exact (e16.trans e7) _ _ ha
  rintro σ H4 ⟨rfl, e14, hc4, hfb⟩
  obtain ⟨c0, hc0⟩ : ∃ c0, c0 = cause0 R m co := ⟨_, rfl⟩
  rw [← hc0] at hc4
  have lc0 : c0.length ≤ 20001 := by
    rw [hc0]
    unfold cause0
    rw [List.length_cons]
    cases co with
    | none => show 0 + 1 ≤ _; omega
    | some b =>
      show ((chR R b).getD []).length + 1 ≤ _
      cases hh : chR R b with
      | none => show 0 + 1 ≤ _; omega
      | some c' =>
        have := few b c' hh
        show c'.length + 1 ≤ _
        omega
  refine ⟨by show 0 ≤ sizeLine; decide, fun fl zfl => ?_⟩
  show tSeq _ _ _ [some (.ref x), some (.str m), some (srcV co), some (.str m), some (.ref c), some (.ref fl), none, none] (upd H4 fl (.lst []))
  have zfl0 := fresh_back e14 zfl
  have e15 : Ex H (upd H4 fl (.lst [])) := e14.trans (Ex.new zfl)
  have hfl5 : (upd H4 fl (.lst [])) fl = some (.lst (([] : List Str).map V.str)) := upd_same
  have cfl : c ≠ fl := ne_of_none hc4 zfl
  have hc5 : (upd H4 fl (.lst [])) c = some (.lst (c0.map V.str)) := (Ex.new zfl) _ _ hc4
  generalize upd H4 fl (.lst []) = H5 at e15 hfl5 hc5 ⊢
  refine fun D zD => ⟨.str m, rfl, .ref c, rfl, upd_same, [(.inr m, .ref c)], rfl, by show 1 ≤ 15; decide, ?_⟩
  dsimp only
  have zD0 := fresh_back e15 zD
  have e16 : Ex H (upd H5 D (.dK [])) := e15.trans (Ex.new zD)
  have hb6 : Ex H (upd (upd H5 D (.dK [])) D (.dK (mergeK [] [((.inr m : Key), V.ref c)]))) := fun a o ha => by
    have an : a ≠ D := fun z => by rw [z, zD0] at ha; cases ha
    rw [upd_ne an]
    exact e16 _ _ ha
  have flD : fl ≠ D := ne_of_none hfl5 zD
  have cD : c ≠ D := ne_of_none hc5 zD
  have hfl6 : (upd (upd H5 D (.dK [])) D (.dK (mergeK [] [((.inr m : Key), V.ref c)]))) fl = some (.lst (([] : List Str).map V.str)) := by rw [upd_ne flD, upd_ne flD]; exact hfl5
  have hc6 : (upd (upd H5 D (.dK [])) D (.dK (mergeK [] [((.inr m : Key), V.ref c)]))) c = some (.lst (c0.map V.str)) := by rw [upd_ne cD, upd_ne cD]; exact hc5
  have hD6 : (upd (upd H5 D (.dK [])) D (.dK (mergeK [] [((.inr m : Key), V.ref c)]))) D = some (.dK (kvCh [(m, (c, c0))])) := upd_same
  generalize upd (upd H5 D (.dK [])) D (.dK (mergeK [] [((.inr m : Key), V.ref c)])) = H6 at hb6 hfl6 hc6 hD6 ⊢
  show tSeq _ _ _ [some (.ref x), some (.str m), some (srcV co), some (.str m), some (.ref c), some (.ref fl), some (.ref D), none] H6
  have offR : ∀ {a : Addr}, H a = none → a ∉ ownR A' R := fun {a} z y => by
    obtain ⟨o, ho, _⟩ := rg.own_some y
    rw [z] at ho
    cases ho
  have st0 : FaSt C CG HB H H6 x A' U R R m c0 fl D 0 [(m, (c, c0))] [] := {
    to := RgTo.from hb6 (RgTo.refl (rg.ex hb6))
    fal := FalTo.refl R _
    hD := hD6
    zD := .inl zD0
    nD := offR zD0
    per := List.Perm.refl _
    wt := ⟨List.nodup_cons.mpr ⟨(fun z => nomatch z), List.nodup_nil⟩, fun r hr => by
      rw [List.mem_singleton.mp hr]
      exact ⟨hc6, .inl zc0, offR zc0, if_pos rfl⟩⟩
    rD := fun r hr => by rw [List.mem_singleton.mp hr]; exact ⟨cD, cfl⟩
    hfl := hfl6
    zfl := .inl zfl0
    nfl := offR zfl0
    flD := flD
    pfl := List.Perm.refl _
    ne := fun j hj => absurd hj (Nat.not_lt_zero j) }
  refine q_while (fun n σ' H' => ∃ i D rows fs Rk y7, n = U.length + 1 - i ∧ σ' = [some (.ref x), some (.str m), some (srcV co), some (.str m), some (.ref c), some (.ref fl), some (.ref D), y7] ∧ FaSt C CG HB H H' x A' U R Rk m c0 fl D i rows fs) (U.length + 1) ⟨0, D, _, [], R, none, rfl, rfl, st0⟩ ?_
  clear st0 hD6 hc6 hfl6 cD flD hb6 zD0 e16 zD hc5 hfl5 hc4 hc3 cfl
  rintro n σ' H7 ⟨i, D, rows, fs, Rk, y7, rfl, rfl, st⟩
  have iU : i ≤ U.length := fal_few hm nU st.ne
  have Cin : ∀ y ∈ (runF U (eR R) m c0 i).C, y ∈ U := fun y hy => fal_in hm i y (fal_sub i y hy)
  have Cnd := (fal_nd (e := eR R) (m := m) (c0 := c0) nU i).2
  have kn : (rows.map (·.1)).Nodup := st.per.nodup_iff.mpr Cnd
  have nmU : ∀ y ∈ rows.map (·.1), y ∈ U := fun y hy => Cin y (st.per.mem_iff.mp hy)
  have lr : rows.length ≤ 40 := by
    have z := pigeon kn nmU
    rw [List.length_map] at z
    omega
  refine ⟨decide (((kvCh rows).length : Int) > 0), fun H8 e8 Q0 q0 => ⟨.ref D, rfl, D, kvCh rows, rfl, e8 _ _ st.hD, ((kvCh rows).length : Int), 0, rfl, rfl, _, rfl, q0 H8 (Ex.refl H8)⟩, fun hb H8 e8 => ?_, fun hb H8 e8 => ?_⟩
  rotate_left
  · -- nothing more fails
    have r0 : rows = [] := by
      have z := of_decide_eq_false hb
      unfold kvCh at z
      rw [List.length_map] at z
      exact List.length_eq_zero_iff.mp (by omega)
    have C0 : (runF U (eR R) m c0 i).C = [] := by
      have z := st.per
      rw [r0] at z
      exact List.nil_perm.mp z
    have Fe : (runF U (eR R) m c0 i).F = preF U (eR R) m c0 i := by rw [pre_app, C0, List.append_nil]
    have fE : fallR U R m co = runF U (eR R) m c0 i := by
      unfold fallR
      rw [← hc0]
      exact fall_is C0 iU
    have fsl : fs.length < 64 := by
      have z := st.pfl.length_eq
      rw [← Fe] at z
      have := pigeon (fal_nd (e := eR R) (m := m) (c0 := c0) nU i).1 (fal_in hm i)
      omega
    have to8 := st.to.ex e8
    have hfl8 := e8 _ _ st.hfl
    refine ⟨.ref fl, rfl, fl, fs, rfl, sq_of hfl8, fsl, fun ys p hp hs zp => ?_⟩
    rw [sorted_is hp hs]
    have np : p ∉ ownR A' Rk := fun z => by
      obtain ⟨o, ho, _⟩ := to8.1.own_some z
      rw [zp] at ho
      cases ho
    refine q hrun hfb Rk p _ (fun c' o nc hc z => by have y := to8.2.1 c' o nc hc; rw [z, zp] at y; cases y) np (to8.ex (Ex.new zp)) ?_ ?_
    · rw [upd_same, fE, Fe, srtS_of st.pfl]
    · rw [fE, Fe]
      exact st.fal
  have r0 : rows ≠ [] := fun z => by
    have y := of_decide_eq_true hb
    rw [z] at y
    exact absurd y (by decide)
  have C0 : (runF U (eR R) m c0 i).C ≠ [] := fun z => by
    have y := st.per
    rw [z] at y
    have := List.perm_nil.mp y
    exact r0 (List.map_eq_nil_iff.mp this)
  refine ⟨fun σ2 H2 => ∃ n', n' < U.length + 1 - i ∧ ∃ i D rows fs Rk y7, n' = U.length + 1 - i ∧ σ2 = [some (.ref x), some (.str m), some (srcV co), some (.str m), some (.ref c), some (.ref fl), some (.ref D), y7] ∧ FaSt C CG HB H H2 x A' U R Rk m c0 fl D i rows fs, fun _ _ h => h, ?_⟩
  -- every one of the round is sunk
  have hD8 := e8 _ _ st.hD
  have to8 := st.to.ex e8
  have Dni : ∀ C' dx fs', H8 D ≠ some (.ins C' dx fs') := fun C' dx fs' z => by rw [hD8] at z; cases z
  refine ⟨D, .dK (kvCh rows), hD8, trivial, fun od => ?_⟩
  have toL := to8.own (o := .frz od (.dK (kvCh rows))) rg st.zD st.nD Dni
  have hDL : (upd H8 D (.frz od (.dK (kvCh rows)))) D = some (.frz od (.dK (kvCh rows))) := upd_same
  have hflL : (upd H8 D (.frz od (.dK (kvCh rows)))) fl = some (.lst (fs.map V.str)) := by rw [upd_ne st.flD]; exact e8 _ _ st.hfl
  have wtL : Wait A' R Rk H (upd H8 D (.frz od (.dK (kvCh rows)))) (runF U (eR R) m c0 i).k rows := ⟨st.wt.an, fun r hr => by
    obtain ⟨a, b⟩ := st.wt.ls r hr
    exact ⟨by rw [upd_ne (st.rD r hr).1]; exact e8 _ _ a, b⟩⟩
  generalize upd H8 D (.frz od (.dK (kvCh rows))) = HL at toL hDL hflL wtL ⊢
  have km : (kvCh rows).map (fun kv => kV kv.1) = (rows.map (·.1)).map V.str := by
    unfold kvCh
    rw [List.map_map, List.map_map]
    rfl
  refine ⟨.ref D, rfl, D, od, rfl, .inl ⟨kvCh rows, hDL, for_it walk_keys (fun j σ' H' => ∃ y7 Rj, σ' = [some (.ref x), some (.str m), some (srcV co), some (.str m), some (.ref c), some (.ref fl), some (.ref D), y7] ∧ RgTo C CG HB H H' x A' U R Rj ∧ FalTo R (runF U (eR R) m c0 i).k (preF U (eR R) m c0 i ++ (rows.map (·.1)).take j) Rj ∧ H' D = some (.frz od (.dK (kvCh rows))) ∧ D ∉ ownR A' Rj ∧ Wait A' R Rj H H' (runF U (eR R) m c0 i).k (rows.drop j) ∧ H' fl = some (.lst (fs.map V.str)) ∧ fl ∉ ownR A' Rj)
    ⟨y7, Rk, rfl, toL, by rw [List.take_zero, List.append_nil]; exact st.fal, hDL, st.nD, wtL, hflL, st.nfl⟩ (fun j σ' H' _ hP => ?_) (fun j u σ' H9' H9 hj hP hY => ?_) (fun σ' H9 hP => ?_)⟩⟩
  · obtain ⟨_, _, _, _, _, h, _⟩ := hP
    exact h
  · obtain ⟨y7, Rj, rfl, toj, falj, hDj, nDj, wtj, hflj, nflj⟩ := hP
    obtain ⟨rfl, k0, v0, hk0, rfl⟩ := hY
    have jl : j < rows.length := by
      have := (List.getElem?_eq_some_iff.mp hk0).1
      unfold kvCh at this
      rw [List.length_map] at this
      exact this
    obtain ⟨r, hrj⟩ : ∃ r, r = rows[j] := ⟨_, rfl⟩
    have hr : r ∈ rows := by rw [hrj]; exact List.getElem_mem jl
    have k0e : k0 = .inr r.1 := by
      unfold kvCh at hk0
      rw [List.getElem?_map, List.getElem?_eq_getElem jl] at hk0
      rw [hrj]
      exact (congrArg Prod.fst (Option.some.inj hk0)).symm
    rw [k0e]
    have dj : rows.drop j = r :: rows.drop (j + 1) := by rw [hrj]; exact List.drop_eq_getElem_cons jl
    have tj : (rows.map (·.1)).take (j + 1) = (rows.map (·.1)).take j ++ [r.1] := by
      rw [← List.map_take, ← List.map_take, List.take_succ_eq_append_getElem jl, List.map_append, ← hrj]
      rfl
    have rU : r.1 ∈ U := nmU _ (List.mem_map_of_mem hr)
    have rnot : r.1 ∉ preF U (eR R) m c0 i ++ (rows.map (·.1)).take j := fun z => by
      rcases List.mem_append.mp z with y | y
      · have nd := (fal_nd (e := eR R) (m := m) (c0 := c0) nU i).1
        rw [pre_app] at nd
        exact (List.nodup_append.mp nd).2.2 _ y _ (st.per.mem_iff.mp (List.mem_map_of_mem hr)) rfl
      · have e : rows.map (·.1) = (rows.map (·.1)).take j ++ r.1 :: (rows.map (·.1)).drop (j + 1) := by
          have z2 := congrArg (List.map (·.1)) dj
          rw [List.map_drop, List.map_cons, List.map_drop] at z2
          rw [← z2]
          exact (List.take_append_drop j _).symm
        have nd := kn
        rw [e] at nd
        exact (List.nodup_append.mp nd).2.2 _ y _ List.mem_cons_self rfl
    have wr := wtj.ls r (by rw [dj]; exact List.mem_cons_self)
    have val : valV (kvCh rows) (.inr r.1) = some (.ref r.2.1) := by
      obtain ⟨v, hv⟩ := getA_some (l := rows) (n := r.1) (List.mem_map_of_mem (f := (·.1)) hr)
      have z := nodup_key kn (getA_mem hv) hr rfl
      unfold kvCh
      rw [valV_mapA (fun r : Addr × List Str => V.ref r.1), hv]
      have z2 : v = r.2 := congrArg Prod.snd z
      rw [z2]
      rfl
    show tDrop _ _ [some (.ref x), some (.str m), some (srcV co), some (.str m), some (.ref c), some (.ref fl), some (.ref D), some (.str r.1)] H9
    refine ⟨.ref x, rfl, x, A'.dx, _, rfl, toj.1.ob, rfl, .str r.1, rfl, ?_⟩
    refine ev_dgRd (x := r.1) (v := .ref r.2.1) (ev_var (i := 6) rfl) (ev_var (i := 7) rfl) (.inr ⟨od, hDj⟩) val H9 (Ex.refl H9) _ fun H10 e10 => ?_
    dsimp only [tNil, List.nil_append, List.cons_append]
    have toj10 := toj.ex e10
    refine ⟨x, r.1, r.2.1, r.2.2, HB, A', U, Rj, rfl, toj10.1, rU, e10 _ _ wr.1, wr.2.2.1, wr.2.1.hb rg, fun R' H11 toC fal1 => ?_⟩
    have out : ∀ {a : Addr} {o : HO}, a ≠ r.2.1 → a ∉ ownR A' Rj → H10 a = some o → H11 a = some o ∧ a ∉ ownR A' R' := fun {a o} n1 n2 h => by
      refine ⟨toC.2.1 a o (fun z => (List.mem_cons.mp z).elim n1 n2) h, fun z => ?_⟩
      rcases toC.2.2 a z with y | y | y
      · exact n2 y
      · exact n1 y
      · rw [h] at y; cases y
    obtain ⟨hD11, nD11⟩ := out (fun z => (st.rD r hr).1 z.symm) nDj (e10 _ _ hDj)
    obtain ⟨hf11, nf11⟩ := out (fun z => (st.rD r hr).2 z.symm) nflj (e10 _ _ hflj)
    have an := wtj.an
    rw [dj, List.map_cons] at an
    refine ⟨_, R', rfl, toj10.thenC wr.2.1 toC, ?_, hD11, nD11, ⟨(List.nodup_cons.mp an).2, fun r' hr' => ?_⟩, hf11, nf11⟩
    · rw [tj, ← List.append_assoc]
      exact falj.one fal1 rnot wr.2.2.2.symm
    · obtain ⟨a1, a2, a3, a4⟩ := wtj.ls r' (by rw [dj]; exact List.mem_cons_of_mem _ hr')
      obtain ⟨b1, b2⟩ := out (fun z => (List.nodup_cons.mp an).1 (by rw [show cAd r = r'.2.1 from z.symm]; exact List.mem_map_of_mem (f := cAd) hr')) a3 (e10 _ _ a1)
      exact ⟨b1, a2, b2, a4⟩
  obtain ⟨y7, Rj, rfl, toj, falj, hDj, nDj, _, hflj, nflj⟩ := hP
  refine ⟨hDj, ?_⟩
  dsimp only
  have lkm : (kvCh rows).length = (rows.map (·.1)).length := by unfold kvCh; rw [List.length_map, List.length_map]
  rw [lkm, List.take_length] at falj
  have Dnj : ∀ C' dx fs', H9 D ≠ some (.ins C' dx fs') := fun C' dx fs' z => by rw [hDj] at z; cases z
  have tou := toj.own (o := .dK (kvCh rows)) rg st.zD nDj Dnj
  have hDu : (upd H9 D (.dK (kvCh rows))) D = some (.dK (kvCh rows)) := upd_same
  have hflu : (upd H9 D (.dK (kvCh rows))) fl = some (.lst (fs.map V.str)) := by rw [upd_ne st.flD]; exact hflj
  generalize upd H9 D (.dK (kvCh rows)) = Hu at tou hDu hflu ⊢
  have falF : FalTo R (runF U (eR R) m c0 i).k (runF U (eR R) m c0 i).F Rj := falj.same (fun y => by
    rw [pre_app, List.mem_append, List.mem_append, st.per.mem_iff]) fun _ _ => rfl
  -- the round's modules are kept
  refine ⟨.ref fl, rfl, .ref D, rfl, D, kvCh rows, rfl, .inl hDu, fun p zp => ?_⟩
  rw [km]
  have flp : fl ≠ p := ne_of_none hflu zp
  have Dp : D ≠ p := ne_of_none hDu zp
  have lfs : fs.length ≤ 40 := by
    have z := st.pfl.length_eq
    have y := congrArg List.length (pre_app (U := U) (e := eR R) (m := m) (c0 := c0) i)
    rw [List.length_append] at y
    have := pigeon (fal_nd (e := eR R) (m := m) (c0 := c0) nU i).1 (fal_in hm i)
    omega
  refine ⟨fl, p, _, _, rfl, rfl, by rw [upd_ne flp]; exact hflu, upd_same, by rw [List.length_map, List.length_map, List.length_map, sizeLine_eq]; omega, ?_⟩
  rw [← List.map_append]
  have top := (tou.ex (Ex.new (o := .lst ((rows.map (·.1)).map V.str)) zp)).own (D := fl) (o := .lst ((fs ++ rows.map (·.1)).map V.str)) rg st.zfl nflj (fun C' dx fs' z => by rw [upd_ne flp, hflu] at z; cases z)
  have hDp : (upd (upd Hu p (.lst ((rows.map (·.1)).map V.str))) fl (.lst ((fs ++ rows.map (·.1)).map V.str))) D = some (.dK (kvCh rows)) := by rw [upd_ne st.flD.symm, upd_ne Dp]; exact hDu
  have hflp : (upd (upd Hu p (.lst ((rows.map (·.1)).map V.str))) fl (.lst ((fs ++ rows.map (·.1)).map V.str))) fl = some (.lst ((fs ++ rows.map (·.1)).map V.str)) := upd_same
  generalize upd (upd Hu p (.lst ((rows.map (·.1)).map V.str))) fl (.lst ((fs ++ rows.map (·.1)).map V.str)) = Hp at top hDp hflp ⊢
  have chF : ∀ t ∈ (runF U (eR R) m c0 i).F, chR Rj t = (runF U (eR R) m c0 i).k t := fun t ht => by rw [falF.ch t, if_pos ht]
  have inF : ∀ t ∈ rows.map (·.1), t ∈ (runF U (eR R) m c0 i).F := fun t ht => fal_sub i t (st.per.mem_iff.mp ht)
  refine ⟨.ref x, rfl, x, A'.dx, _, rfl, top.1.ob, rfl, .ref D, rfl, x, D, rows.map (·.1), kvCh rows, HB, A', U, Rj, rfl, top.1, hDp, by unfold kvCh; rw [List.map_map, List.map_map]; rfl, kn, fun t ht => ?_, fun n' rows' H12 zn e12 ch ks' chs => ?_⟩
  · obtain ⟨ct, hct⟩ := fal_some i t (inF t ht)
    refine ⟨nmU t ht, ct, by rw [chF t (inF t ht)]; exact hct, ?_⟩
    have := fal_long i t ct hct
    omega
  have eF : ∀ s, s ∉ (runF U (eR R) m c0 i).F → ∀ t, eR Rj s t = eR R s t := fun s hs t => by
    unfold eR
    refine decide_eq_decide.mpr ((falF.ga (s, t)).trans ⟨fun z => z.1, fun z => ⟨z, hs⟩⟩)
  have eN : ∀ s t, eR Rj s t = true → s ∉ (runF U (eR R) m c0 i).F := fun s t z => ((falF.ga (s, t)).mp (of_decide_eq_true z)).2
  have memC : ∀ s, s ∈ rows'.map (·.1) ↔ s ∈ (runF U (eR R) m c0 (i + 1)).C := fun s => by
    rw [ks' s]
    show _ ↔ s ∈ nxF U (eR R) (runF U (eR R) m c0 i).F (runF U (eR R) m c0 i).C
    rw [mem_nxF]
    constructor
    · rintro ⟨t, ht, he⟩
      have ns := eN s t he
      refine ⟨(tgS_in top.1.nA.ok (of_decide_eq_true he)).1, ⟨t, st.per.mem_iff.mp ht, by rw [← eF s ns]; exact he⟩, ns⟩
    · rintro ⟨_, ⟨t, ht, he⟩, ns⟩
      exact ⟨t, st.per.mem_iff.mpr ht, by rw [eF s ns]; exact he⟩
  have to12 := top.ex e12
  have nown : ∀ {a : Addr}, Hp a = none → a ∉ ownR A' Rj := fun {a} z y => by
    obtain ⟨o, ho, _⟩ := top.1.own_some y
    rw [z] at ho
    cases ho
  have hfl12 := e12 _ _ hflp
  have nd1 : (runF U (eR R) m c0 (i + 1)).C.Nodup := (fal_nd nU (i + 1)).2
  refine ⟨U.length + 1 - (i + 1), by omega, i + 1, n', rows', fs ++ rows.map (·.1), Rj, y7, rfl, rfl, ?_⟩
  exact {
    to := to12
    fal := falF.same (fun y => Iff.rfl) fun y hy => (fal_keep hy).symm
    hD := ch.hn
    zD := top.fr zn
    nD := nown zn
    per := (List.perm_ext_iff_of_nodup ch.kn nd1).mpr memC
    wt := ⟨ch.an, fun r hr => ⟨(ch.ls r hr).1, top.fr (ch.ls r hr).2.1, nown (ch.ls r hr).2.1, by
      have mem := (memC r.1).mp (List.mem_map_of_mem (f := (·.1)) hr)
      obtain ⟨_, hex, ns⟩ := mem_nxF.mp mem
      have fe : eR Rj r.1 = eR R r.1 := funext (eF r.1 ns)
      have pe : parF (eR Rj) (rows.map (·.1)) r.1 = parF (eR R) (runF U (eR R) m c0 i).C r.1 := by
        rw [← par_perm st.per]
        unfold parF
        rw [fe]
      have z := chs r hr
      rw [pe, chF _ (fal_sub i _ (par_mem hex).1)] at z
      rw [z]
      exact if_pos mem⟩⟩
    rD := fun r hr => ⟨(ch.ls r hr).2.2, fun z => by
      have y := (ch.ls r hr).2.1
      rw [z, hflp] at y
      cases y⟩
    hfl := hfl12
    zfl := st.zfl
    nfl := nflj
    flD := fun z => by rw [z, zn] at hflp; cases hflp
    pfl := by
      show (fs ++ rows.map (·.1)).Perm (runF U (eR R) m c0 i).F
      rw [pre_app]
      exact st.pfl.append st.per
    ne := fun j hj => by
      rcases Nat.lt_succ_iff_lt_or_eq.mp hj with h | h
      · exact st.ne j h
      · rw [h]; exact C0 }
end
end Cr
/-! registries: chain, is_held, release, recorded -/
namespace Cr
open PySem PySem.Spec PyProof.Rows L2 Evl
abbrev sRCh : Stmt := inClass (topS 21) 23
theorem scRCh : FnScope ["self", "module"] ["self", "module"] (defScope sRCh) := ⟨rfl, rfl, rfl, by decide +kernel, rfl, by decide +kernel, by decide +kernel⟩
def spRCh (C CG CW : Addr) : Sp := fun vs H Q E => ∃ x m HB A U R, vs = [.ref x, .str m] ∧ RgAt C CG HB H x A U R ∧ m ∈ U ∧ (stM R m = "failed" → ∃ c, chR R m = some c) ∧
  (stM R m = "failed" → ∀ c, chR R m = some c → ∀ l H', H l = none → Ex H H' → H' l = some (.lst (c.map V.str)) → Q (.ref l) H') ∧
  (stM R m ≠ "failed" → ∀ dx H', Rsd2 H H' dx "module" "found" (.str m) (.str (stM R m)) → E (.ref CW) (some dx) H')
abbrev sRIh : Stmt := inClass (topS 21) 24
theorem scRIh : FnScope ["self", "module"] ["self", "module"] (defScope sRIh) := ⟨rfl, rfl, rfl, by decide +kernel, rfl, by decide +kernel, by decide +kernel⟩
def spRIh (C CG : Addr) : Sp := fun vs H Q _ => ∃ x m HB A U R, vs = [.ref x, .str m] ∧ RgAt C CG HB H x A U R ∧ m ∈ U ∧ ∀ H', Ex H H' → Q (.bl (decide (m ∈ R.hd))) H'
abbrev sRRc : Stmt := inClass (topS 21) 31
theorem scRRc : FnScope ["self"] ["self"] (defScope sRRc) := ⟨rfl, rfl, rfl, by decide +kernel, rfl, by decide +kernel, by decide +kernel⟩
def spRRc (C CG : Addr) : Sp := fun vs H Q _ => ∃ x HB A U R, vs = [.ref x] ∧ RgAt C CG HB H x A U R ∧ ∀ y A' g' H', H y = none → Ex H H' → NdAt CG H' y A' U g' → H A'.dd = none → (∀ r ∈ g', H r.a = none) → g'.map stR = R.ge.map stR → Q (.ref y) H'
theorem hd_some (hd : List Str) (m : Str) : (valV (kvHd hd) (.inr m)).isSome = decide (m ∈ hd) := by
  have e : kvHd hd = (hd.map fun n => (n, ())).map fun r => ((.inr r.1 : Key), (fun _ : Unit => V.bl true) r.2) := by unfold kvHd; rw [List.map_map]; rfl
  rw [e, valV_mapA (fun _ : Unit => V.bl true), Option.isSome_map, Bool.eq_iff_iff, getA_key, decide_eq_true_eq, List.map_map]
  show m ∈ hd.map id ↔ _
  rw [List.map_id]
section
variable {P : Program} {w : World} {K : PySem.W.Frag} {mg : Str → Option Value} {base : Heap}
theorem ev_dinR {ty td : TE} {σ : L2.St} {H : Hp} {a : Addr} {z : Str} {kvs : List (Key × V)} (hy : Ev ty σ H (.str z)) (hd : Ev td σ H (.ref a)) (h : H a = some (.dK kvs)) : Ev (tDIn ty td) σ H (.bl (valV kvs (.inr z)).isSome) := fun H1 e Q q =>
  hy H1 e _ fun H2 e2 => hd H2 (e.trans e2) _ fun H3 e3 => ⟨a, _, rfl, DGet.k (k := .inr z) (((e.trans e2).trans e3) _ _ h), q H3 (e2.trans e3)⟩
theorem ok_rch {f C CG CW : Addr} {fd : FuncData} {k : Nat} (F : Fun K "chain" "Registry.chain" sRCh f fd) (B : Blt mg) (T : RgC K mg C) (h1 : HasM P w K mg base CX0 k C "known" ["self", "value"] (spRKn C CG)) (h2 : HasM P w K mg base (L2.CX P w) k C "check_state" ["self", "module", "state"] (spRCs C CG CW)) : FnOk P w K mg base (L2.CX P w) (k + 1) f fd ["self", "module"] (spRCh C CG CW) := by
  obtain ⟨f1, d1, G1, b1, mm1⟩ := h1.ex
  obtain ⟨f2, d2, G2, b2, mm2⟩ := h2.ex
  refine F.okX scRCh (fun vs H Q E h => by obtain ⟨_, _, _, _, _, _, rfl, _⟩ := h; rfl) (fun cdv A outer s0 H vs Q E hr h => ?_)
  obtain ⟨x, m, HB, A', U, R, rfl, rg, hm, hch, q, qe⟩ := h
  have hu := hu_of hr
  refine ⟨_, pss_cons (ps_expr (pe_meth (E := E) (pv 0) T.cl mm2 G2 hr b2 .nil (passes_call (takes_of rfl rfl rfl rfl) fun _ _ _ _ h => h) (pa_cons (pe_meth (E := E0) (pv 0) T.cl mm1 G1 hr b1 .nil pass0 (pa_cons (pv 1) pa_nil)) (pa_cons pe_str pa_nil))))
    (pss_one (ps_ret (pe_callTy call_list_of (by rfl) B.list bList (pa_cons (pe_dget hu (pe_fld (pv 0) rfl) (pv 1) (fun _ _ => rfl)) pa_nil)))), ?_⟩
  refine q_dropAny ⟨.ref x, rfl, x, A'.dx, _, rfl, rg.ob, rfl, ?_⟩
  refine ev_known (i := 0) (j := 1) rfl rfl rg hm H (Ex.refl H) _ fun H1 e1 => ?_
  refine ⟨x, m, "failed", HB, A', U, R, rfl, rg.ex e1, hm, fun hf H2 e2 => ?_, fun hne dx H' r => qe hne dx H' (r.back e1)⟩
  have e12 := e1.trans e2
  have rg2 := rg.ex e12
  obtain ⟨c, hc⟩ := hch hf
  obtain ⟨cr, hcr⟩ : ∃ cr, getA R.ch m = some cr := by
    have hc' := hc
    unfold chR at hc'
    obtain ⟨cr, h1, _⟩ := Option.map_eq_some_iff.mp hc'
    exact ⟨cr, h1⟩
  have cE : c = cr.2 := by
    unfold chR at hc
    rw [hcr] at hc
    exact (Option.some.inj hc).symm
  have cval : valV (kvCh R.ch) (.inr m) = some (.ref cr.1) := by
    unfold kvCh
    rw [valV_mapA (fun r : Addr × List Str => V.ref r.1), hcr]
    rfl
  refine ev_dgRd (x := m) (v := .ref cr.1) (ev_fld (ev_var (i := 0) rfl) rg2.ob T.cl T.nC (flR_C A')) (ev_var (i := 1) rfl) (.inl rg2.hC) cval H2 (Ex.refl H2) _ fun H3 e3 => ?_
  refine ⟨cr.1, _, rfl, .inl (sq_of (e3 _ _ (rg2.hCi _ (getA_mem hcr)))), fun l zl => ?_⟩
  exact q hf c hc l _ (fresh_back (e12.trans e3) zl) ((e12.trans e3).trans (Ex.new zl)) (by rw [upd_same, cE])
theorem ok_rih {f C CG : Addr} {fd : FuncData} {k : Nat} (F : Fun K "is_held" "Registry.is_held" sRIh f fd) (T : RgC K mg C) (h1 : HasM P w K mg base CX0 k C "known" ["self", "value"] (spRKn C CG)) : FnOk P w K mg base CX0 (k + 1) f fd ["self", "module"] (spRIh C CG) := by
  obtain ⟨f1, d1, G1, b1, mm1⟩ := h1.ex
  refine F.ok scRIh (fun vs H Q E h => by obtain ⟨_, _, _, _, _, _, rfl, _⟩ := h; rfl) (fun cdv A outer s0 H vs Q E hr h => ?_)
  obtain ⟨x, m, HB, A', U, R, rfl, rg, hm, q⟩ := h
  have hu := hu_of hr
  refine ⟨_, pss_one (ps_ret (pe_cmp (pc_din hu (pe_meth (E := E0) (pv 0) T.cl mm1 G1 hr b1 .nil pass0 (pa_cons (pv 1) pa_nil)) (pe_fld (pv 0) rfl)))), ?_⟩
  refine s_ret (ev_dinR (ev_known rfl rfl rg hm) (ev_fld (ev_var rfl) rg.ob T.cl T.nH (flR_H A')) rg.hH) fun H1 e1 => ?_
  rw [hd_some]
  exact q H1 e1
theorem ok_rrc {f C CG : Addr} {fd : FuncData} {k : Nat} (F : Fun K "recorded" "Registry.recorded" sRRc f fd) (T : RgC K mg C) (TN : NdC K mg CG) (h1 : HasM P w K mg base CX0 k CG "clone" ["self"] (spClone CG)) : FnOk P w K mg base CX0 (k + 1) f fd ["self"] (spRRc C CG) := by
  obtain ⟨f1, d1, G1, b1, mm1⟩ := h1.ex
  refine F.ok scRRc (fun vs H Q E h => by obtain ⟨_, _, _, _, _, rfl, _⟩ := h; rfl) (fun cdv A outer s0 H vs Q E hr h => ?_)
  obtain ⟨x, HB, A', U, R, rfl, rg, q⟩ := h
  refine ⟨_, pss_one (ps_ret (pe_meth0 (E := E0) (pe_fld (pv 0) rfl) TN.cl mm1 G1 hr b1 .nil pass0)), ?_⟩
  exact ⟨.ref x, rfl, x, C, A'.dx, _, .ref A'.gE.x, rfl, rg.ob, T.cl, T.nE, flR_E A', A'.gE.x, A'.gE.a.dx, _, rfl, rg.nE.ob, rfl, A'.gE.x, A'.gE.a, U, R.ge, rfl, rg.nE, fun y A2 g' H3 zy e3 nd zd zr em => q y A2 g' H3 zy e3 nd zd zr em⟩
end
end Cr
/-! registries: check_kept, unload -/
namespace Cr
open PySem PySem.Spec PyProof.Rows L2 Evl
abbrev sRCk : Stmt := inClass (topS 21) 28
abbrev nRCk : List Str := ["self", "value", "module"]
theorem scRCk : FnScope nRCk ["self", "value"] (defScope sRCk) := ⟨rfl, rfl, rfl, by decide +kernel, rfl, by decide +kernel, by decide +kernel⟩
abbrev sRUl : Stmt := inClass (topS 21) 29
abbrev nRUl : List Str := ["self", "kept", "users", "module", "other", "used", "unloaded"]
theorem scRUl : FnScope nRUl ["self", "kept"] (defScope sRUl) := ⟨rfl, rfl, rfl, by decide +kernel, rfl, by decide +kernel, by decide +kernel⟩
def spRCk (K : PySem.W.Frag) (C CG : Addr) : Sp := fun vs H Q _ => ∃ (x p : Addr) (ks : List Str) (HB : Hp) (A : RgA) (U : List Str) (R : Rg), vs = [.ref x, .ref p] ∧ RgAt C CG HB H x A U R ∧ SqT K H p (ks.map V.str) ∧ (∀ n ∈ ks, n ∈ U) ∧ ks.length ≤ 40 ∧ ∀ H', Ex H H' → Q .non H'
def usersU (U : List Str) (R : Rg) (ks : List Str) : List Str := ks ++ inR U R "running" ++ inR U R "done" ++ inR U R "failed"
def usedB (U : List Str) (R : Rg) (ks : List Str) (y : Str) : Bool := (usersU U R ks).any fun u => decide (y ∈ cloS R.g u)
/-- what is unloaded -/
def ulR (U : List Str) (R : Rg) (ks : List Str) : List Str := (inR U R "ready").filter fun y => !usedB U R ks y
structure UnlTo (R : Rg) (G : List Str) (R' : Rg) : Prop where
  ge : R'.ge = R.ge
  ga : R'.ga = R.ga
  hd : R'.hd = R.hd
  ch : R'.ch = R.ch
  st : ∀ y, stM R' y = if y ∈ G then ("new" : Str) else stM R y
  g : ∀ q : Pr, q.2 ∈ tgS R'.g q.1 ↔ (q.2 ∈ tgS R.g q.1 ∧ q.1 ∉ G)
  ex : ∀ y, exR R' y = if y ∈ G then [] else exR R y
theorem UnlTo.refl (R : Rg) : UnlTo R [] R :=
  ⟨rfl, rfl, rfl, rfl, (fun y => by rw [if_neg (fun z => nomatch z)]), (fun q => ⟨fun z => ⟨z, fun y => nomatch y⟩, fun z => z.1⟩), fun y => by rw [if_neg (fun z => nomatch z)]⟩
theorem UnlTo.one {R R1 R2 : Rg} {G : List Str} {m : Str} (h : UnlTo R G R1) (s : UnlTo R1 [m] R2) : UnlTo R (G ++ [m]) R2 := by
  have ap : ∀ {y : Str}, y ∈ G ++ [m] ↔ (y ∈ G ∨ y = m) := fun {y} => by rw [List.mem_append, List.mem_singleton]
  have e1 : ∀ {y : Str}, y ∈ ([m] : List Str) ↔ y = m := List.mem_singleton
  refine ⟨s.ge.trans h.ge, s.ga.trans h.ga, s.hd.trans h.hd, s.ch.trans h.ch, fun y => ?_, fun q => ?_, fun y => ?_⟩
  · rw [s.st y, h.st y]
    by_cases a : y = m
    · rw [if_pos (e1.mpr a), if_pos (ap.mpr (.inr a))]
    · rw [if_neg (fun z => a (e1.mp z))]
      by_cases b : y ∈ G
      · rw [if_pos b, if_pos (ap.mpr (.inl b))]
      · rw [if_neg b, if_neg fun z => (ap.mp z).elim b a]
  · rw [s.g q, h.g q, ap, e1]
    exact ⟨fun z => ⟨z.1.1, fun y => y.elim z.1.2 z.2⟩, fun z => ⟨⟨z.1, fun y => z.2 (.inl y)⟩, fun y => z.2 (.inr y)⟩⟩
  · rw [s.ex y, h.ex y]
    by_cases a : y = m
    · rw [if_pos (e1.mpr a), if_pos (ap.mpr (.inr a))]
    · rw [if_neg (fun z => a (e1.mp z))]
      by_cases b : y ∈ G
      · rw [if_pos b, if_pos (ap.mpr (.inl b))]
      · rw [if_neg b, if_neg fun z => (ap.mp z).elim b a]
def spRUl (K : PySem.W.Frag) (C CG : Addr) : Sp := fun vs H Q _ => ∃ (x p : Addr) (ks : List Str) (HB : Hp) (A : RgA) (U : List Str) (R : Rg), vs = [.ref x, .ref p] ∧ RgAt C CG HB H x A U R ∧ SqT K H p (ks.map V.str) ∧ (∀ n ∈ ks, n ∈ U) ∧ ks.length ≤ 40 ∧
  ∀ R' cl H', H cl = none → cl ∉ ownR A R' → RgTo C CG HB H H' x A U R R' → H' cl = some (.lst ((ulR U R ks).map V.str)) → UnlTo R (ulR U R ks) R' → Q (.ref cl) H'
theorem ex_sqT {K : PySem.W.Frag} {H H' : Hp} {a : Addr} {xs : List V} (e : Ex H H') (h : SqT K H a xs) : SqT K H' a xs := h.imp (ex_rd e) id
/-- a walk over the names of a tuple -/
theorem el_namesT {K : PySem.W.Frag} {te : TE} {tt : TT} {σ : L2.St} {H : Hp} {ns : List Str} {i j : Nat} {a : Addr} (f : Str → Bool) (v : Str → V) (hi : σ[i]? = some (some (.ref a))) (ha : SqT K H a (ns.map V.str)) (hz : ns.length ≤ 40000)
    (hw : ∀ x, wipe ((wipe σ [j]).set j (some x)) [j] = wipe σ [j]) (ht : ∀ n H1, Ex H H1 → n ∈ ns → EvT tt ((wipe σ [j]).set j (some (.str n))) H1 (f n)) (he : ∀ n H1, Ex H H1 → n ∈ ns → f n = true → Ev te ((wipe σ [j]).set j (some (.str n))) H1 (v n)) :
    EvL (tLc (iTup K (tVar i)) (gName j) tt te [j]) σ H ((ns.filter f).map v) := by
  have lc := el_lcW (wi := iTup K (tVar i)) (g := gName j) (tt := tt) (te := te) (vs := [j]) (σ := σ) (H := H) (n := ns.length) (Y := YAt (ns.map V.str)) (fun i => f (ns.getD i "")) (fun i => v (ns.getD i "")) hz
    (fun H1 e1 R r => ⟨.ref a, hi, a, rfl, ⟨_, ex_sqT e1 ha⟩, r H1 _ (fun H => SqT K H a (ns.map V.str)) (by have w := walk_tup (K := K) (a := a) (xs := ns.map V.str); rw [List.length_map] at w; exact w) (fun _ _ e z => ex_sqT e z) (Ex.refl H1) (ex_sqT e1 ha)⟩)
    (fun i y H1 H2 e1 hi hy => by
      obtain ⟨rfl, hy⟩ := hy
      rw [List.getElem?_map, List.getElem?_eq_getElem hi] at hy
      cases hy
      have gd : ns.getD i "" = ns[i] := by rw [List.getD_eq_getElem?_getD, List.getElem?_eq_getElem hi]; rfl
      rw [gd]
      have mem : ns[i] ∈ ns := List.getElem_mem hi
      exact ⟨Ex.refl _, _, hw _, fun R r => r, ht _ H2 e1 mem, fun h => he _ H2 e1 mem h⟩)
  rw [given_flt ns "" f v] at lc
  exact lc
section
variable {P : Program} {w : World} {K : PySem.W.Frag} {mg : Str → Option Value} {base : Heap}
theorem ok_rck {f C CG : Addr} {fd : FuncData} {k : Nat} (F : Fun K "check_kept" "Registry.check_kept" sRCk f fd) (B : Blt mg) (T : RgC K mg C) (h1 : HasO P w K mg base k "is_name" ["value"] (spD isName)) : FnOk P w K mg base CX0 (k + 1) f fd ["self", "value"] (spRCk K C CG) := by
  obtain ⟨f1, d1, G1, b1, k1, g1⟩ := h1.ex
  refine F.ok scRCk (fun vs H Q E h => by obtain ⟨_, _, _, _, _, _, _, rfl, _⟩ := h; rfl) (fun cdv A outer s0 H vs Q E hr h => ?_)
  obtain ⟨x, p, ks, HB, A', U, R, rfl, rg, hp, hU, l40, q⟩ := h
  have hu := hu_of hr
  refine ⟨_, pss_cons (ps_if (pt_not (pt_val (pe_callB call_isiT (by rfl) B.isi bIsi (pa_cons (pv 1) (pa_cons (pe_tup (pa_cons (pe_bltn (v := .ty "list") (by rfl) B.list bList rfl) (pa_cons (pe_bltn (v := .ty "tuple") (by rfl) B.tuple bTuple rfl) pa_nil))) pa_nil))))) pss_dead' pss_nil)
    (pss_one (ps_if (pt_not (pt_val (pe_callB (cr_all rfl) (by rfl) B.all bAll (pa_cons (pe_lc (own := [("module", 2)]) (g := gName 2) (tt := tYes) (te := tAndV (tCall (spD isName) [] E0 (tCons (tVar 2) tNil)) (tDIn (tVar 2) (tFld K (tVar 0) "states"))) rfl scRCk.nd (pi_tup (pv 1)) (blkOk_by (own := [("module", 2)]) (N := nRCk) (sc := defScope sRCk) (by decide +kernel))
        (fun _ _ _ _ _ => pg_name (i := 2) scRCk.nd rfl (Or.inl rfl)) (fun _ _ _ _ _ => pts_nil) (fun _ _ _ _ _ => by exact pe_and (pe_call (E := E0) G1 hr (by rfl) g1 k1 b1 .nil pass0 (pa_cons (pv 2) pa_nil)) (pe_one (pe_cmp (pc_din hu (pv 2) (pe_fld (pv 0) rfl)))))) pa_nil)))) pss_dead' pss_nil)), ?_⟩
  have isS : Ev (tCB (rIsiT K) (tCons (tVar 1) (tCons (tTup (tCons (tC (.ty "list")) (tCons (tC (.ty "tuple")) tNil))) tNil))) [some (.ref x), some (.ref p), none] H (.bl true) := fun H1 e1 Q' q' => by
    refine ⟨.ref p, rfl, by show 2 ≤ sizeLine; decide, fun p2 zp => ?_⟩
    have hk : PySem.W.kitAny K (.type "tuple") [.type "list", .type "tuple"] = some true := by
      have z : PySem.W.kitOne K (.type "tuple") (.type "list") = some false := kit_isT (K := K) (T := "list") (by decide) (.tuple [])
      have y : PySem.W.kitOne K (.type "tuple") (.type "tuple") = some true := kit_isT (K := K) (T := "tuple") (by decide) (.tuple [])
      unfold PySem.W.kitAny
      rw [z]
      unfold PySem.W.kitAny
      rw [y]
    have ty : TyX K (upd H1 p2 (.tup [.ty "list", .ty "tuple"])) (.ref p) (.type "tuple") := by
      rcases ex_sqT (K := K) (e1.trans (Ex.new zp)) hp with (h | ⟨o, h⟩) | ⟨o, its, n, h1, h2, _⟩
      · exact .base (.tup h)
      · exact .fTuple h
      · exact .kTuple h1 h2
    exact ⟨.ref p, p2, [.ty "list", .ty "tuple"], .type "tuple", [.type "list", .type "tuple"], true, rfl, upd_same, .cons (.ty _) (.cons (.ty _) .nil), ty, hk, q' _ (Ex.new zp)⟩
  refine q_when (b := false) (et_is (et_not (et_B isS)) rfl) (fun z => nomatch z) (fun _ H1 e1 => ?_)
  have rg1 := rg.ex e1
  have lc := el_namesT (K := K) (tt := tYes) (te := tAndV (tCall (spD isName) [] E0 (tCons (tVar 2) tNil)) (tDIn (tVar 2) (tFld K (tVar 0) "states"))) (σ := [some (.ref x), some (.ref p), none]) (H := H1) (i := 1) (j := 2) (fun _ => true) (fun _ => .bl true) rfl (ex_sqT e1 hp) (by omega) (fun _ => rfl) (fun y H2 _ _ => fun H4 _ Q q => q H4 (Ex.refl H4)) (fun y H2 e2 hy _ => by
    have rg2 := rg1.ex e2
    have hyU := hU y hy
    refine ev_is (ev_andV (a := true) (b := true) (ev_isName rfl (rg.wf.un y hyU)) fun _ => ev_is (ev_dinR (ev_var (i := 2) rfl) (ev_fld (ev_var (i := 0) rfl) rg2.ob T.cl T.nS (flR_S A')) rg2.hS) (by rw [st_val rg.wf hyU]; rfl)) rfl)
  rw [List.filter_eq_self.mpr (fun _ _ => rfl)] at lc
  have em : ks.map (fun _ => V.bl true) = (ks.map fun _ => true).map V.bl := by rw [List.map_map]; rfl
  rw [em] at lc
  have al : (ks.map fun _ => true).all id = true := by rw [List.all_map]; exact List.all_eq_true.mpr fun _ _ => rfl
  have A1 := ev_all (K := K) lc
  rw [al] at A1
  exact s_when (b := false) (et_is (et_not (et_B A1)) rfl) (fun z => nomatch z) (fun _ H2 e2 => q H2 (e1.trans e2))
end
end Cr
/-! registries: unload -/
namespace Cr
open PySem PySem.Spec PyProof.Rows L2 Evl
section
variable {P : Program} {w : World} {K : PySem.W.Frag} {mg : Str → Option Value} {base : Heap}
theorem el_ins {C CG x : Addr} {HB H : Hp} {A : RgA} {U : List Str} {R : Rg} {σ : L2.St} {i : Nat} {st : Str} (hi : σ[i]? = some (some (.ref x))) (rg : RgAt C CG HB H x A U R) (hs : st ∈ states5) : EvL (tMeth C "in_state" (spRIn C CG) [] E0 (tVar i) (tCons (tC (.str st)) tNil)) σ H ((inR U R st).map V.str) :=
  fun Ha ea Q' q' => ⟨.ref x, hi, x, A.dx, _, rfl, (rg.ex ea).ob, rfl, x, st, HB, A, U, R, rfl, rg.ex ea, hs, fun l H' z e' hl => q' l H' z e' hl⟩
theorem el_cloR {C CG CNm x : Addr} {HB H : Hp} {A : RgA} {U : List Str} {R : Rg} {σ : L2.St} {i j n : Nat} {m : Str} (T : RgC K mg C) (n1 : 1 ≤ n) (hi : σ[i]? = some (some (.ref x))) (hj : σ[j]? = some (some (.str m))) (rg : RgAt C CG HB H x A U R) (hm : m ∈ U) :
    EvL (tMeth CG "closure" (spClo CG CNm n) [] E0 (tFld K (tVar i) "graph") (tCons (tVar j) tNil)) σ H ((cloS R.g m).map V.str) := fun H1 e1 Q' q' => by
  have nm := rg.wf.un m hm
  refine ev_fld (ev_var hi) rg.ob T.cl T.nN (flR_N A) H1 e1 _ fun H2 e2 => ⟨A.gN.x, A.gN.a.dx, _, rfl, (rg.ex (e1.trans e2)).nN.ob, rfl, .str m, hj, ?_⟩
  refine ⟨A.gN.x, .str m, .str m, A.gN.a, U, R.g, rfl, (rg.ex (e1.trans e2)).nN, .str m, sm_name nm, ⟨rfl, by show 0 < n; omega⟩, fun z => ?_, fun a ea _ l H3 zl e3 hl => ?_⟩
  · rw [show isName (.str m) = true from nm] at z; cases z
  · cases ea
    exact q' l H3 (fresh_back e2 zl) (e2.trans e3) hl
theorem ins_len (U : List Str) (R : Rg) (st : Str) : (inR U R st).length ≤ U.length := List.length_filter_le _ _
theorem ins_U {U : List Str} {R : Rg} {st y : Str} (h : y ∈ inR U R st) : y ∈ U := (List.mem_filter.mp h).1
theorem users_U {U : List Str} {R : Rg} {ks : List Str} (hU : ∀ n ∈ ks, n ∈ U) : ∀ n ∈ usersU U R ks, n ∈ U := fun n hn => by
  unfold usersU at hn
  rcases List.mem_append.mp hn with z | z
  · rcases List.mem_append.mp z with z | z
    · rcases List.mem_append.mp z with z | z
      · exact hU n z
      · exact ins_U z
    · exact ins_U z
  · exact ins_U z
theorem ok_rul {f C CG CNm : Addr} {fd : FuncData} {k n : Nat} (F : Fun K "unload" "Registry.unload" sRUl f fd) (B : Blt mg) (T : RgC K mg C) (TN : NdC K mg CG) (n1 : 1 ≤ n) (h1 : HasM P w K mg base CX0 k C "check_kept" ["self", "value"] (spRCk K C CG)) (h3 : HasM P w K mg base CX0 k C "in_state" ["self", "state"] (spRIn C CG)) (h4 : HasM P w K mg base (L2.CX P w) k CG "closure" ["self", "name"] (spClo CG CNm n)) (h5 : HasM P w K mg base CX0 k CG "delete_all" ["self", "source"] (spDelAll CG)) :
    FnOk P w K mg base CX0 (k + 1) f fd ["self", "kept"] (spRUl K C CG) := by
  obtain ⟨f1, d1, G1, b1, mm1⟩ := h1.ex
  obtain ⟨f3, d3, G3, b3, mm3⟩ := h3.ex
  obtain ⟨f4, d4, G4, b4, mm4⟩ := h4.ex
  obtain ⟨f5, d5, G5, b5, mm5⟩ := h5.ex
  refine F.ok scRUl (fun vs H Q E h => by obtain ⟨_, _, _, _, _, _, _, rfl, _⟩ := h; rfl) (fun cdv A outer s0 H vs Q E hr h => ?_)
  obtain ⟨x, p, ks, HB, A', U, R, rfl, rg, hp, hU, l40, q⟩ := h
  have hu := hu_of hr
  refine ⟨_, pss_cons (ps_expr (pe_meth (E := E0) (pv 0) T.cl mm1 G1 hr b1 .nil pass0 (pa_cons (pv 1) pa_nil)))
    (pss_cons (ps_set (i := 2) scRUl.nd rfl (.inl rfl) (pe_op op_cat (pe_op op_cat (pe_op op_cat (pe_callTy call_list_of (by rfl) B.list bList (pa_cons (pv 1) pa_nil)) (pe_meth (E := E0) (pv 0) T.cl mm3 G3 hr b3 .nil pass0 (pa_cons pe_str pa_nil))) (pe_meth (E := E0) (pv 0) T.cl mm3 G3 hr b3 .nil pass0 (pa_cons pe_str pa_nil))) (pe_meth (E := E0) (pv 0) T.cl mm3 G3 hr b3 .nil pass0 (pa_cons pe_str pa_nil))))
    (pss_cons (ps_set (i := 5) scRUl.nd rfl (.inr rfl) (pe_dc2 (own := [("module", 3), ("other", 4)]) (vs1 := [4]) (g := gName 3) (g1 := gName 4) (tt := tYes) (tt1 := tYes) (wi1 := iList K (tMeth CG "closure" (spClo CG CNm n) [] E0 (tFld K (tVar 0) "graph") (tCons (tVar 3) tNil))) (tk := tVar 4) (tv := tC (.bl true)) rfl scRUl.nd (pi_list (pv 2)) (blkOk_by (own := [("module", 3), ("other", 4)]) (N := nRUl) (sc := defScope sRUl) (by decide +kernel)) (by decide)
        (fun _ _ _ _ _ => pg_name (i := 3) scRUl.nd rfl (Or.inl rfl)) (fun _ _ _ _ _ => pts_nil) (fun _ _ _ _ _ => by exact pi_list (pe_meth (E := E0) (pe_fld (pv 0) rfl) TN.cl mm4 G4 hr b4 .nil passL (pa_cons (pv 3) pa_nil))) (fun _ _ _ _ _ => pg_name (i := 4) scRUl.nd rfl (Or.inl rfl)) (fun _ _ _ _ _ => pts_nil) (fun _ _ _ _ _ => by exact pv 4) (fun _ _ _ _ _ => by exact pe_bl)))
    (pss_cons (ps_setLc (i := 6) (own := [("module", 3)]) (g := gName 3) (tt := tTest (tDNotIn (tVar 3) (tVar 5))) (te := tVar 3) rfl scRUl.nd rfl rfl (sw_true rfl rfl rfl (by decide +kernel)) (pi_list (pe_meth (E := E0) (pv 0) T.cl mm3 G3 hr b3 .nil pass0 (pa_cons pe_str pa_nil))) (blkOk_by (own := [("module", 3)]) (N := nRUl) (sc := defScope sRUl) (by decide +kernel))
        (fun _ _ _ _ _ => pg_name (i := 3) scRUl.nd rfl (Or.inl rfl)) (fun _ _ _ _ _ => by exact pts_one (pt_cmp (pc_dnotin hu (pv 3) (pv 5)))) (fun _ _ _ _ _ => by exact pv 3))
    (pss_cons (ps_for PassesOwn.never rfl (pi_list (pv 6)) (pg_name (i := 3) scRUl.nd rfl (.inl rfl))
      (pss_cons (ps_dput hu (pe_fld (pv 0) rfl) (pv 3) pe_str rfl)
      (pss_cons (ps_dput hu (pe_fld (pv 0) rfl) (pv 3) pe_dnewK rfl)
      (pss_one (ps_expr (pe_meth (E := E0) (pe_fld (pv 0) rfl) TN.cl mm5 G5 hr b5 .nil pass0 (pa_cons (pv 3) pa_nil)))))))
    (pss_one (ps_ret (pv 6))))))), ?_⟩
  have lU := rg.wf.u40
  refine q_dropAny ⟨.ref x, rfl, x, A'.dx, _, rfl, rg.ob, rfl, .ref p, rfl, x, p, ks, HB, A', U, R, rfl, rg, hp, hU, l40, fun H1 e1 => ?_⟩
  have rg1 := rg.ex e1
  have hp1 := ex_sqT e1 hp
  have li := ins_len U R
  have lst : EvL (tOp rCat (tOp rCat (tOp rCat (tCB (fun xs H Q => ∃ p ys, xs = [V.ref p] ∧ (SqL K H p ys ∨ SqT K H p ys) ∧ ∀ l, H l = none → Q (.ref l) (upd H l (.lst ys))) (tCons (tVar 1) tNil)) (tMeth C "in_state" (spRIn C CG) [] E0 (tVar 0) (tCons (tC (.str "running")) tNil))) (tMeth C "in_state" (spRIn C CG) [] E0 (tVar 0) (tCons (tC (.str "done")) tNil))) (tMeth C "in_state" (spRIn C CG) [] E0 (tVar 0) (tCons (tC (.str "failed")) tNil))) [some (.ref x), some (.ref p), none, none, none, none, none] H1 ((usersU U R ks).map V.str) := by
    have z := el_cat (el_cat (el_cat (t1 := tCB (fun xs H Q => ∃ p ys, xs = [V.ref p] ∧ (SqL K H p ys ∨ SqT K H p ys) ∧ ∀ l, H l = none → Q (.ref l) (upd H l (.lst ys))) (tCons (tVar 1) tNil)) (σ := [some (.ref x), some (.ref p), none, none, none, none, none]) (H := H1) (xs := ks.map V.str) (fun H2 e2 Q' q' => ⟨.ref p, rfl, p, _, rfl, .inr (ex_sqT e2 hp1), fun l zl => q' l _ zl (Ex.new zl) upd_same⟩) (el_ins (i := 0) rfl rg1 (st := "running") (by decide +kernel)) (by rw [List.length_map, List.length_map]; have := li "running"; omega)) (el_ins (i := 0) rfl rg1 (st := "done") (by decide +kernel)) (by rw [List.length_append, List.length_map, List.length_map, List.length_map]; have := li "running"; have := li "done"; omega)) (el_ins (i := 0) rfl rg1 (st := "failed") (by decide +kernel)) (by rw [List.length_append, List.length_append, List.length_map, List.length_map, List.length_map, List.length_map]; have := li "running"; have := li "done"; have := li "failed"; omega)
    unfold usersU
    rw [List.map_append, List.map_append, List.map_append]
    exact z
  refine q_asgL lst fun ul H2 zul e2 hul => ?_
  have e12 := e1.trans e2
  have rg2 := rg.ex e12
  have uU := users_U (R := R) hU
  refine q_asgAny ?_
  refine dc2_names (K := K) (tl := tVar 2) (tl1 := tMeth CG "closure" (spClo CG CNm n) [] E0 (tFld K (tVar 0) "graph") (tCons (tVar 3) tNil)) (j1 := 3) (j2 := 4) (L1 := usersU U R ks) (U := U) (cloS R.g) (fun Q' q' => ⟨.ref ul, rfl, q' ul H2 (Ex.refl H2) hul⟩) (by omega) (fun n hn y hy => clo_U rg.nN.ok (uU n hn) hy) (fun n hn H3 e3 => el_cloR T n1 rfl rfl (rg2.ex e3) (uU n hn)) (fun _ => rfl) (fun _ _ => rfl) (fun _ _ => rfl) fun D H3 ds zD e3 nd3 m3 hD => ?_
  have e13 := e12.trans e3
  have rg3 := rg.ex e13
  obtain ⟨cs, hcs⟩ : ∃ cs, cs = ulR U R ks := ⟨_, rfl⟩
  have csU : ∀ n ∈ cs, n ∈ U := fun n hn => by rw [hcs] at hn; exact ins_U (List.mem_filter.mp hn).1
  have lc : EvL (tLc (iList K (tMeth C "in_state" (spRIn C CG) [] E0 (tVar 0) (tCons (tC (.str "ready")) tNil))) (gName 3) (tTest (tDNotIn (tVar 3) (tVar 5))) (tVar 3) [3]) [some (.ref x), some (.ref p), some (.ref ul), none, none, some (.ref D), none] H3 (cs.map V.str) := by
    rw [hcs]
    unfold ulR
    refine el_namesW (K := K) (j := 3) (fun y => !usedB U R ks y) V.str (el_ins (i := 0) rfl rg3 (by decide +kernel)) (by have := li "ready"; omega) (fun _ => rfl) (fun n Ha ea hn => ?_) (fun n Ha ea hn _ => ev_var rfl)
    refine et_is (et_dnotR (ev_var (i := 3) rfl) (ev_var (i := 5) rfl) (ea _ _ hD)) ?_
    rw [hd_some]
    congr 1
    rw [Bool.eq_iff_iff, decide_eq_true_eq]
    unfold usedB
    rw [List.any_eq_true, m3 n]
    exact ⟨fun ⟨u, h1, h2⟩ => ⟨u, h1, decide_eq_true h2⟩, fun ⟨u, h1, h2⟩ => ⟨u, h1, of_decide_eq_true h2⟩⟩
  refine q_asgL lc fun cl H4 zcl e4 hcl => ?_
  have rg4 := rg3.ex e4
  have ncl : cl ∉ ownR A' R := fun z => by
    obtain ⟨o, ho, _⟩ := rg3.own_some z
    rw [zcl] at ho
    cases ho
  have nclT : ∀ {Ri : Rg} {H' : Hp}, RgTo C CG HB H4 H' x A' U R Ri → cl ∉ ownR A' Ri ∧ H' cl = some (.lst (cs.map V.str)) := fun {Ri H'} to => ⟨fun z => by
    exact (to.2.2 cl z).elim ncl (fun y => by rw [hcl] at y; cases y), to.2.1 cl _ ncl hcl⟩
  show tSeq _ _ _ [some (.ref x), some (.ref p), some (.ref ul), none, none, some (.ref D), some (.ref cl)] H4
  refine ⟨.ref cl, rfl, cl, rfl, ⟨_, sq_of hcl⟩, for_list (xs := cs.map V.str) (fun i σ' H' => ∃ (y3 : Option V) (Ri : Rg), σ' = [some (.ref x), some (.ref p), some (.ref ul), y3, none, some (.ref D), some (.ref cl)] ∧ RgTo C CG HB H4 H' x A' U R Ri ∧ UnlTo R (cs.take i) Ri)
    ⟨none, R, rfl, RgTo.refl rg4, by rw [List.take_zero]; exact UnlTo.refl R⟩ (fun i σ' H' _ hP => ?_) (fun i v σ' H5 hv hP => ?_) (fun σ' H5 hP => ?_)⟩
  · obtain ⟨_, Ri, _, to, _⟩ := hP
    exact sq_of (nclT to).2
  · obtain ⟨y3, Ri, rfl, to, ul1⟩ := hP
    have hil : i < cs.length := by
      have := (List.getElem?_eq_some_iff.mp hv).1
      rw [List.length_map] at this
      exact this
    rw [List.getElem?_map, List.getElem?_eq_getElem hil] at hv
    cases hv
    have htk : cs.take (i + 1) = cs.take i ++ [cs[i]] := List.take_succ_eq_append_getElem hil
    have hmem := List.getElem_mem hil
    rw [htk]
    generalize cs[i] = n0 at htk hmem
    have hnU := csU n0 hmem
    have nn := rg.wf.un n0 hnU
    have rg5 := to.1
    show tSeq _ _ _ [some (.ref x), some (.ref p), some (.ref ul), some (.str n0), none, some (.ref D), some (.ref cl)] H5
    obtain ⟨dp, to6⟩ := rg5.putS hnU (v := "new") (by decide +kernel)
    refine ⟨.ref x, rfl, x, C, A'.dx, _, .ref A'.aS, rfl, rg5.ob, T.cl, T.nS, flR_S A', .str n0, rfl, A'.aS, _, rfl, dp, ?_⟩
    dsimp only
    have rg6 := to6.1
    generalize upd H5 A'.aS (.dK (kvSt (putA Ri.st n0 "new"))) = H6 at to6 rg6 ⊢
    refine fun b zb => ?_
    obtain ⟨dp7, to7⟩ := rg6.newX (b := b) hnU zb
    refine ⟨.ref x, rfl, x, C, A'.dx, _, .ref A'.aX, rfl, (rg6.ex (Ex.new zb)).ob, T.cl, T.nX, flR_X A', .str n0, rfl, A'.aX, _, rfl, dp7, ?_⟩
    dsimp only at to7 ⊢
    have rg7 := to7.1
    generalize upd (upd H6 b (.dK [])) A'.aX (.dK (kvX (putA Ri.ex n0 (b, [])))) = H7 at to7 rg7 ⊢
    refine ⟨.ref x, rfl, x, C, A'.dx, _, .ref A'.gN.x, rfl, rg7.ob, T.cl, T.nN, flR_N A', A'.gN.x, A'.gN.a.dx, _, rfl, rg7.nN.ob, rfl, .str n0, rfl, ?_⟩
    dsimp only [tNil, List.nil_append, List.cons_append]
    show spDelAll CG [.ref A'.gN.x, .str n0] _ _ _
    refine delAll_of rg7.nN nn fun g8 H8 b8 nd8 iff8 new8 => ?_
    have to8 := rg7.setN (l := [A'.gN.a.dd]) b8 (fun a ha => by rw [List.mem_singleton.mp ha]; exact List.mem_cons_self) nd8 fun r hr => .inl (List.mem_cons_of_mem _ (List.mem_map_of_mem (new8 r hr)))
    refine ⟨_, _, rfl, to.trans (to6.trans (to7.trans to8)), ul1.one ⟨rfl, rfl, rfl, rfl, fun y => ?_, fun q => (iff8 q).trans ?_, fun y => ?_⟩⟩
    · show stM { Ri with st := putA Ri.st n0 "new" } y = _
      rw [stM_put]
      by_cases e : y = n0
      · rw [if_pos e, if_pos (List.mem_singleton.mpr e)]
      · rw [if_neg e, if_neg (fun z => e (List.mem_singleton.mp z))]
    · rw [List.mem_singleton]
    · show exR { Ri with ex := putA Ri.ex n0 (b, []) } y = _
      rw [exR_new]
      by_cases e : y = n0
      · rw [if_pos e, if_pos (List.mem_singleton.mpr e)]
      · rw [if_neg e, if_neg (fun z => e (List.mem_singleton.mp z))]
  · obtain ⟨y3, Ri, rfl, to, ul1⟩ := hP
    rw [List.length_map, List.take_length] at ul1
    obtain ⟨c1, c2⟩ := nclT to
    refine s_ret (ev_var (i := 6) rfl) fun H6 e6 => ?_
    refine q Ri cl H6 (fresh_back e13 zcl) c1 ((RgTo.from (e13.trans e4) to).ex e6) (by rw [← hcs]; exact e6 _ _ c2) (by rw [← hcs]; exact ul1)
end
end Cr
/-! registries: value_of, export of any values -/
namespace Cr
open PySem PySem.Spec PyProof.Rows L2 Evl
abbrev sRVo : Stmt := inClass (topS 21) 17
abbrev nRVo : List Str := ["self", "module", "name", "exported"]
theorem scRVo : FnScope nRVo ["self", "module", "name"] (defScope sRVo) := ⟨rfl, rfl, rfl, by decide +kernel, rfl, by decide +kernel, by decide +kernel⟩
/-- the value under a name of any kind -/
def valX (e : Ints) : PyData → Int
  | .str l => if isNameS l = true then (getA e l).getD (-1) else -1
  | _ => -1
theorem valX_no {e : Ints} {d : PyData} (h : isName d = false) : valX e d = -1 := by
  cases d with
  | str l =>
    have h : isNameS l = false := h
    show (if isNameS l = true then (getA e l).getD (-1) else -1) = -1
    rw [h]
    rfl
  | _ => rfl
def spRVo (C CG : Addr) : Sp := fun vs H Q _ => ∃ x m v d HB A U R, vs = [.ref x, .str m, v] ∧ RgAt C CG HB H x A U R ∧ m ∈ U ∧ Dt H v d ∧ sm d = true ∧ ∀ H', Ex H H' → Q (.int (valX (exR R m) d)) H'
def spRXa (C CG CW CNm CNu : Addr) (n : Nat) : Sp := fun vs H Q E => ∃ x m lv nv ld nd HB A U R, vs = [.ref x, .str m, lv, nv] ∧ RgAt C CG HB H x A U R ∧ m ∈ U ∧ Dt H lv ld ∧ sm ld = true ∧ cpyTo n ld ∧ Dt H nv nd ∧ sm nd = true ∧ (∀ r ∈ R.ex, r.2.2.length ≤ 1000) ∧
  (stM R m = "running" → ∀ l i, ld = .str l → isNameS l = true → nd = .int i → ∀ a e H', getA R.ex m = some (a, e) → RgTo C CG HB H H' x A U R (xpR R m l i a e) → Q .non H') ∧
  (stM R m ≠ "running" → ∀ dx H', Rsd2 H H' dx "module" "found" (.str m) (.str (stM R m)) → E (.ref CW) (some dx) H') ∧
  (stM R m = "running" → isName ld = false → ∀ dx H', Rsd1 H H' dx "value" ld → E (.ref CNm) (some dx) H') ∧
  (stM R m = "running" → isName ld = true → isInteger nd = false → ∀ H', Ex H H' → E (.ref CNu) none H')
section
variable {P : Program} {w : World} {K : PySem.W.Frag} {mg : Str → Option Value} {base : Heap}
theorem ok_rvo {f C CG : Addr} {fd : FuncData} {k : Nat} (F : Fun K "value_of" "Registry.value_of" sRVo f fd) (T : RgC K mg C) (h1 : HasM P w K mg base CX0 k C "known" ["self", "value"] (spRKn C CG)) (h2 : HasO P w K mg base k "is_name" ["value"] (spD isName)) : FnOk P w K mg base CX0 (k + 1) f fd ["self", "module", "name"] (spRVo C CG) := by
  obtain ⟨f1, d1, G1, b1, mm1⟩ := h1.ex
  obtain ⟨f2, d2, G2, b2, k2, g2⟩ := h2.ex
  refine F.ok scRVo (fun vs H Q E h => by obtain ⟨_, _, _, _, _, _, _, _, rfl, _⟩ := h; rfl) (fun cdv A outer s0 H vs Q E hr h => ?_)
  obtain ⟨x, m, v, d, HB, A', U, R, rfl, rg, hm, hd, hs, q⟩ := h
  have hu := hu_of hr
  refine ⟨_, pss_cons (ps_set (i := 3) scRVo.nd rfl (.inl rfl) (pe_dget hu (pe_fld (pv 0) rfl) (pe_meth (E := E0) (pv 0) T.cl mm1 G1 hr b1 .nil pass0 (pa_cons (pv 1) pa_nil)) (fun _ _ => rfl)))
    (pss_one (ps_ret (pe_ifExp (pt_val (pe_call (E := E0) G2 hr (by rfl) g2 k2 b2 .nil pass0 (pa_cons (pv 2) pa_nil))) (pe_dget2 hu (pv 3) (pv 2) (pe_un un_neg pe_int) ⟨rfl, rfl, rfl, rfl⟩) (pe_un un_neg pe_int)))), ?_⟩
  obtain ⟨a, e, hg, ha, mem, hv⟩ := xrow_get rg hm
  have er : exR R m = e := by unfold exR; rw [hg]; rfl
  rw [er] at q
  refine q_asg (v := .ref a) (ev_dgRd (x := m) (ev_fld (ev_var rfl) rg.ob T.cl T.nX (flR_X A')) (ev_known rfl rfl rg hm) (.inl rg.hX) hv) fun H1 e1 => ?_
  have ha1 := e1 _ _ ha
  have hd1 := Dt.ex e1 hd
  have neg : ∀ {σ : L2.St} {H : Hp}, Ev (tUn (rU fun i => .int (-i)) (tC (.int 1))) σ H (.int (-1)) := fun {σ H} H2 e2 Q' q' => ⟨1, rfl, q' H2 (Ex.refl H2)⟩
  refine s_ret (v := .int (valX e d)) (ev_if (b := isName d) (et_B (ev_call (ea_cons (ev_var rfl) ea_nil) (spv_D hd1 hs))) (fun hn => ?_) (fun hn => ?_)) fun H2 e2 => q H2 (e1.trans e2)
  · cases d with
    | str l =>
      cases hd1 with
      | str =>
      intro H2 e2 Q' q'
      have hn : isNameS l = true := hn
      refine ⟨.ref a, rfl, a, rfl, .inl ⟨_, .inl (e2 _ _ ha1)⟩, .str l, rfl, 1, rfl, _, DGet.k (k := Sum.inr l) (e2 _ _ ha1), ?_⟩
      have z : valX e (.str l) = (getA e l).getD (-1) := by show (if isNameS l = true then (getA e l).getD (-1) else -1) = _; rw [if_pos hn]
      rw [z] at q'
      have y : (valV (kvInt e) (.inr l)).getD (.int (-1)) = .int ((getA e l).getD (-1)) := by
        unfold kvInt
        rw [valV_mapA V.int]
        cases getA e l <;> rfl
      rw [y]
      exact q' H2 (Ex.refl H2)
    | _ => exact nomatch hn
  · rw [valX_no hn]
    exact neg
theorem ok_rxa {f C CG CW CNm CNu : Addr} {fd : FuncData} {k n : Nat} (F : Fun K "export" "Registry.export" sRXp f fd) (B : Blt mg) (T : RgC K mg C) (Nc : NumC K mg CNu) (h1 : HasM P w K mg base CX0 k C "known" ["self", "value"] (spRKn C CG)) (h2 : HasM P w K mg base (L2.CX P w) k C "check_state" ["self", "module", "state"] (spRCs C CG CW)) (h3 : HasE P w K mg base k "check_name" ["value"] (spCheckN CNm n)) (h4 : HasO P w K mg base k "is_integer" ["value"] (spD isInteger)) (h5 : HasO P w K mg base k "bare_word" ["word"] spBareW) : FnOk P w K mg base (L2.CX P w) (k + 1) f fd ["self", "module", "name", "value"] (spRXa C CG CW CNm CNu n) := by
  obtain ⟨f1, d1, G1, b1, mm1⟩ := h1.ex
  obtain ⟨f2, d2, G2, b2, mm2⟩ := h2.ex
  obtain ⟨f3, d3, G3, b3, k3, g3⟩ := h3.ex
  obtain ⟨f4, d4, G4, b4, k4, g4⟩ := h4.ex
  obtain ⟨f5, d5, G5, b5, k5, g5⟩ := h5.ex
  refine F.okX scRXp (fun vs H Q E h => by obtain ⟨_, _, _, _, _, _, _, _, _, _, rfl, _⟩ := h; rfl) (fun cdv A outer s0 H vs Q E hr h => ?_)
  obtain ⟨x, m, lv, nv, ld, nd, HB, A', U, R, rfl, rg, hm, hl, hls, hlc, hn, hns, few, q, qw, qn, qi⟩ := h
  have hu := hu_of hr
  refine ⟨_, pss_cons (ps_set (i := 4) scRXp.nd rfl (.inl rfl) (pe_meth (E := E0) (pv 0) T.cl mm1 G1 hr b1 .nil pass0 (pa_cons (pv 1) pa_nil)))
    (pss_cons (ps_expr (pe_meth (E := E) (pv 0) T.cl mm2 G2 hr b2 .nil (passes_call (takes_of rfl rfl rfl rfl) fun _ _ _ _ h => h) (pa_cons (pv 4) (pa_cons pe_str pa_nil))))
    (pss_cons (ps_expr (pe_call (E := E) G3 hr (by rfl) g3 k3 b3 .nil (passes_call (takes_of rfl rfl rfl rfl) fun _ _ _ _ h => h) (pa_cons (pv 2) pa_nil)))
    (pss_cons (ps_if (pt_not (pt_val (pe_call (E := E0) G4 hr (by rfl) g4 k4 b4 .nil pass0 (pa_cons (pv 3) pa_nil)))) (pss_one (ps_raise rfl (takes_of rfl rfl rfl rfl) (pmk_own PySem.F.excBase_ValueError Nc.exc Nc.at_ Nc.kp (raises_own Nc.sub Nc.ty) rfl))) pss_nil)
    (pss_one (ps_dput hu (pe_dget hu (pe_fld (pv 0) rfl) (pv 4) (fun _ _ => rfl)) (pe_call (E := E0) G5 hr (by rfl) g5 k5 b5 .nil pass0 (pa_cons (pv 2) pa_nil)) (pe_callTy call_int1 (by rfl) B.int bInt (pa_cons (pv 3) pa_nil)) rfl))))), ?_⟩
  refine q_asg (ev_known rfl rfl rg hm) fun H1 e1 => ?_
  have rg1 := rg.ex e1
  refine q_dropAny ⟨.ref x, rfl, x, A'.dx, _, rfl, rg1.ob, rfl, .str m, rfl, x, m, "running", HB, A', U, R, rfl, rg1, hm, fun hrun H2 e2 => ?_, fun hne dx H' r => qw hne dx H' (r.back e1)⟩
  have e12 := e1.trans e2
  refine q_dropAny ⟨lv, rfl, lv, ld, rfl, Dt.ex e12 hl, hls, hlc, fun hnm H3 e3 => ?_, fun z dx H' r => qn hrun z dx H' (r.back e12)⟩
  have e13 := e12.trans e3
  refine q_when (b := !isInteger nd) (et_not (et_B (ev_call (ea_cons (ev_var rfl) ea_nil) (spv_D (Dt.ex e13 hn) hns)))) (fun hb H4 e4 => ?_) (fun hb H4 e4 => ?_)
  · rw [Bool.not_eq_true'] at hb
    exact qi hrun hnm hb H4 (e13.trans e4)
  rw [Bool.not_eq_false'] at hb
  obtain ⟨l, rfl⟩ : ∃ l, ld = .str l := by cases ld <;> first | exact ⟨_, rfl⟩ | exact nomatch hnm
  obtain ⟨i, rfl⟩ : ∃ i, nd = .int i := by cases nd <;> first | exact ⟨_, rfl⟩ | exact nomatch hb
  have evl : lv = .str l := by cases hl; rfl
  have evn : nv = .int i := by cases hn; rfl
  subst evl
  subst evn
  have hnm : isNameS l = true := hnm
  have e14 := e13.trans e4
  obtain ⟨a, e, hg, ha, mem, hv⟩ := xrow_get rg hm
  refine ev_cb (ea_cons (ev_var (i := 3) rfl) ea_nil) (z := .int i) (fun H5 e5 Q q => .inl ⟨i, rfl, q H5 (Ex.refl H5)⟩) H4 (Ex.refl H4) _ fun H5 e5 => ?_
  have e15 := e14.trans e5
  refine ev_dgRd (x := m) (v := .ref a) (ev_fld (ev_var (i := 0) rfl) (e15 _ _ rg.ob) T.cl T.nX (flR_X A')) (ev_var (i := 4) rfl) (.inl (e15 _ _ rg.hX)) hv H5 (Ex.refl H5) _ fun H6 e6 => ?_
  refine ev_bareW (ev_var (i := 2) rfl) hnm H6 (Ex.refl H6) _ fun H7 e7 => ?_
  have e17 := (e15.trans e6).trans e7
  have rg7 := rg.ex e17
  have to := rg7.setXi (l := l) (i := i) hg
  have dp := DPut.k (k := Sum.inr l) (v := .int i) (e17 _ _ ha) (by
    unfold kvInt
    rw [List.length_map, sizeLine_eq]
    have := few _ mem
    show e.length < _
    have : e.length ≤ 1000 := this
    omega)
  have pe : putK (kvInt e) (.inr l) (.int i) = kvInt (putA e l i) := putK_map V.int e l i
  rw [pe] at dp
  exact ⟨a, _, rfl, dp, q hrun l i rfl hnm rfl a e _ hg (RgTo.from e17 to)⟩
end
end Cr
/-! registries: value_of, export of anything, unload, gathered -/
namespace Cr
open PySem PySem.Spec PyProof.Rows L2 Evl
/-- registry.unload, called with kept and without -/
structure UnlP (P : Program) (w : World) (K : PySem.W.Frag) (mg : Str → Option Value) (base : Heap) (k : Nat) (C CG : Addr) : Prop where
  ex : ∃ f fd aT, KTup K aT [] ∧ FnOk P w K mg base CX0 k f fd ["self", "kept"] (spRUl K C CG) ∧ (∃ ds, Vals [.ref aT] ds ∧ Binds K fd ["self", "kept"] ds) ∧ (∃ g, KBn K fd ["self", "kept"] 1 ["kept"] g (fun vs zs => vs ++ zs)) ∧ Meth K C "unload" f
def MethKwK (K : PySem.W.Frag) (C : Addr) (m qual : Str) (st : Stmt) : Prop := ∃ (f D aT : Addr) (od an : Option Addr) (sl : Array (Option Value)) (oc dc pm cd ct : Value),
  PySem.W.findIn K (.ref C) m = some (some (.ref f)) ∧ PySem.W.isFn K (.ref f) = true ∧ K.lookup f = some ⟨oc, od, .func (PySem.W.fnOf m qual (defArgs st) (defBody st) (defScope st) .none (.ref D) dc pm an cd ct), sl⟩ ∧ PySem.W.codeIn K cd qual = true ∧ PySem.W.keepIn K (.ref f) = true ∧ PySem.W.nsIn K D "kept" = some (some (.ref aT)) ∧ KTup K aT []
theorem methKwK {K : PySem.W.Frag} {C : Addr} {m qual : Str} {st : Stmt} {f D aT : Addr} {od an : Option Addr} {sl : Array (Option Value)} {oc dc pm cd ct : Value} (a : PySem.W.findIn K (.ref C) m = some (some (.ref f))) (i : PySem.W.isFn K (.ref f) = true)
    (l : K.lookup f = some ⟨oc, od, .func (PySem.W.fnOf m qual (defArgs st) (defBody st) (defScope st) .none (.ref D) dc pm an cd ct), sl⟩) (c : PySem.W.codeIn K cd qual = true) (k : PySem.W.keepIn K (.ref f) = true) (n : PySem.W.nsIn K D "kept" = some (some (.ref aT))) (t : KTup K aT []) : MethKwK K C m qual st :=
  ⟨f, D, aT, od, an, sl, oc, dc, pm, cd, ct, a, i, l, c, k, n, t⟩
theorem UnlP.up {P : Program} {w : World} {K : PySem.W.Frag} {mg : Str → Option Value} {base : Heap} {j k : Nat} {C CG : Addr} (h : UnlP P w K mg base j C CG) (jk : j ≤ k) : UnlP P w K mg base k C CG := by
  obtain ⟨f, fd, aT, t, a, b, c, d⟩ := h.ex
  exact ⟨f, fd, aT, t, a.mono jk, b, c, d⟩
structure RgEx (P : Program) (w : World) (K : PySem.W.Frag) (mg : Str → Option Value) (base : Heap) (C CG CW CNm CNu : Addr) : Prop where
  vo : HasM P w K mg base CX0 3 C "value_of" ["self", "module", "name"] (spRVo C CG)
  xa : HasM P w K mg base (L2.CX P w) 7 C "export" ["self", "module", "name", "value"] (spRXa C CG CW CNm CNu 3)
  ul : UnlP P w K mg base 8 C CG
theorem rgx_mk {P : Program} {w : World} {K : PySem.W.Frag} {mg : Str → Option Value} {base : Heap} {C CG CNm CNo CW CM CNu : Addr} (RH : RgHas P w K mg base C CG CNm CNo CW CM) (B : Blt mg)
    (rV : MethAt K C "value_of" "Registry.value_of" sRVo)
    (Nc : NumC K mg CNu) (r9 : MethAt K C "export" "Registry.export" sRXp)
    (rK : MethAt K C "check_kept" "Registry.check_kept" sRCk) (rU : MethKwK K C "unload" "Registry.unload" sRUl) : RgEx P w K mg base C CG CW CNm CNu := by
  have T := RH.T
  have TN := RH.N
  have hV : HasM P w K mg base CX0 3 C "value_of" ["self", "module", "name"] (spRVo C CG) := hasM_mk rV (fun _ _ _ _ _ _ us hl => match us, hl with | [_, _, _], _ => rfl) fun f fd F => ok_rvo F T RH.kn (RH.nm.up (by decide))
  have hX : HasM P w K mg base (L2.CX P w) 7 C "export" ["self", "module", "name", "value"] (spRXa C CG CW CNm CNu 3) := hasM_mk r9 (fun _ _ _ _ _ _ us hl => match us, hl with | [_, _, _, _], _ => rfl) fun f fd F => ok_rxa F B T Nc (RH.kn.up (by decide)) RH.cs RH.chn (RH.int.up (by decide)) (RH.bw.up (by decide))
  have hK : HasM P w K mg base CX0 2 C "check_kept" ["self", "value"] (spRCk K C CG) := hasM_mk rK (fun _ _ _ _ _ _ us hl => match us, hl with | [_, _], _ => rfl) fun f fd F => ok_rck F B T RH.nm
  have hU : UnlP P w K mg base 8 C CG := by
    obtain ⟨f', D', aT, od', an', sl', oc', dc', pm', cd', ct', a', i', l', c', kp', m', t'⟩ := rU
    have F' := fun_mk (st := sRUl) l' c' kp'
    have FD : FunD K "unload" "Registry.unload" (defArgs sRUl) (defBody sRUl) (defScope sRUl) [] [("kept", .ref aT)] f' _ := ⟨⟨oc', od', .none, .ref D', dc', pm', an', cd', ct', sl', rfl, l', c', .inl ⟨rfl, rfl⟩, .inr ⟨D', rfl, fun q hq => by
      rw [List.mem_singleton.mp hq]
      exact ⟨_, m', rfl⟩⟩⟩, kp'⟩
    obtain ⟨ds, vd, bd⟩ := FD.binds0 (ps := ["self", "kept"]) 1 (fun z => nomatch z) rfl (fun D doc pm an cdv ct us ks hu hk => by
      match us, ks, hu, hk with
      | [u1], [k1], _, _ => exact ⟨_, _, _, _, _, _, rfl, rfl, rfl⟩)
    obtain ⟨mv, kb⟩ := FD.kbinds0 (ps := ["self", "kept"]) 1 ["kept"] [] (fun vs _ zs => vs ++ zs) (fun z => nomatch z) (fun q hq => nomatch hq) (fun r1 _ r3 => r1.append r3) (fun D doc pm an cdv ct us mv ws hu hm hw => by
      match us, mv, ws, hu, hm, hw with
      | [u1], [], [w1], _, _, _ => rfl)
    exact ⟨⟨f', _, aT, t', ok_rul (n := 3) F' B T TN (by decide) (hK.up (by decide)) (RH.ins.up (by decide)) RH.nclo (RH.nda.up (by decide)), ⟨ds, vd, bd⟩, ⟨_, kb⟩, ⟨a', i', kp'⟩⟩⟩
  exact {
    vo := hV
    xa := hX
    ul := hU
  }
end Cr
/-! a, *b = a list -/
/-! get of a written dict with a default; texts' methods as expressions -/
/-! a text times a number -/
/-! general: texts of plain signs, sign by sign -/
namespace Cr
open PySem PySem.Spec PyProof.Rows L2 Evl
theorem strs_deep0 (ts : List Str) : PyData.depthAll (ts.map PyData.str) = 0 := by
  induction ts with
  | nil => rfl
  | cons t r ih => rw [List.map_cons, PyData.depthAll, ih]; rfl
/-- a text of plain signs -/
def okT (x : Str) : Prop := ∀ c ∈ x.cps.toList, c < 128
theorem okT_sok {x : Str} (h : okT x) : PyData.strOk x = true := by
  unfold PyData.strOk
  rw [Array.all_eq_true_iff_forall_mem]
  intro c hc
  have := h c (by simpa using hc)
  exact decide_eq_true (by omega)
theorem strs_okT {xs : List Str} (h : ∀ x ∈ xs, okT x) : SeqAt.shaped (.list (xs.map PyData.str)) = true := by
  have go : ∀ xs : List Str, (∀ x ∈ xs, okT x) → PyData.canLayAll0 (xs.map PyData.str) = true := by
    intro xs
    induction xs with
    | nil => exact fun _ => rfl
    | cons x r ih =>
      intro h
      rw [List.map_cons, PyData.canLayAll0, ih fun z hz => h z (List.mem_cons_of_mem _ hz), PyData.canLay0, okT_sok (h x List.mem_cons_self)]
      rfl
  unfold SeqAt.shaped
  rw [PyData.canLay0, go xs h, PyData.depth, strs_deep0]
  rfl
theorem eqv_nilS (xs : List Str) : PyData.eqv (.list (xs.map PyData.str)) (.list []) = xs.isEmpty := by
  cases xs with
  | nil => simp [PyData.eqv, PyData.eqvAll]
  | cons x r => simp [PyData.eqv, PyData.eqvAll]
section
variable {te : TE} {tt : TT} {σ : L2.St} {H : Hp}
theorem ev_nilS {xs : List Str} (h : EvL te σ H (xs.map V.str)) (hx : ∀ x ∈ xs, okT x) : Ev (tOp rEqDt te (tLst tNil)) σ H (.bl xs.isEmpty) := fun H1 e1 Q q =>
  evd_ofL h (fun H1 => dts_map _ PyData.str (fun x => .str x) xs) H1 e1 _ fun v H2 e2 hv => evd_lst evda_nil (by show 0 ≤ 1000; decide) H2 (e1.trans e2) _ fun u H3 e3 hu =>
    ⟨.list (xs.map PyData.str), .list [], Dt.ex e3 hv, hu, strs_okT hx, by decide +kernel, by rw [eqv_nilS]; exact q H3 (e2.trans e3)⟩
end
/-- one sign each -/
def ones (l : List Nat) : List Str := l.map fun c => ⟨#[c]⟩
/-- the signs of a text that a test picks -/
theorem el_signs {tt : TT} {ti : TE} {σ : L2.St} {H : Hp} {j : Nat} {x : Str} (b : Nat → Bool) (hx : x.length ≤ 1000) (hi : Ev ti σ H (.str x)) (hw : ∀ v, wipe ((wipe σ [j]).set j (some v)) [j] = wipe σ [j]) (hj : j < (wipe σ [j]).length)
    (ht : ∀ c H1, Ex H H1 → EvT tt ((wipe σ [j]).set j (some (.str ⟨#[c]⟩))) H1 (b c)) : EvL (tLc (iStr ti) (gName j) tt (tVar j) [j]) σ H ((ones (x.cps.toList.filter b)).map V.str) := by
  have lc := el_lcW (wi := iStr ti) (g := gName j) (tt := tt) (te := tVar j) (vs := [j]) (σ := σ) (H := H) (fun i => b (x.cps.toList.getD i 0)) (fun i => .str ⟨#[x.cps.toList.getD i 0]⟩) (Y := fun i H v H' => H' = H ∧ ∃ c, x.cps[i]? = some c ∧ v = .str ⟨#[c]⟩) (n := x.cps.toList.length) (by rw [Array.length_toList]; have : x.cps.size = x.length := rfl; omega)
    (fun H2 e R k => hi H2 e _ fun H3 e3 => ⟨x, rfl, k H3 _ _ (by rw [Array.length_toList]; exact walk_str) (fun _ _ _ z => z) e3 trivial⟩) (fun i y H2 H3 e hi hy => by
      obtain ⟨rfl, c, hc, rfl⟩ := hy
      have ec : x.cps.toList.getD i 0 = c := by
        rw [List.getD, Array.getElem?_toList, hc]; rfl
      refine ⟨Ex.refl _, (wipe σ [j]).set j (some (.str ⟨#[c]⟩)), hw _, fun R r => r, ?_, fun _ => ?_⟩
      · rw [ec]
        exact ht c _ e
      · rw [ec]
        exact ev_var (by rw [List.getElem?_set_self hj]))
  have e : given x.cps.toList.length (fun i => b (x.cps.toList.getD i 0)) (fun i => V.str ⟨#[x.cps.toList.getD i 0]⟩) = (ones (x.cps.toList.filter b)).map V.str := by
    rw [given_flt x.cps.toList 0 b fun c => V.str ⟨#[c]⟩, ones, List.map_map]
    rfl
  rw [e] at lc
  exact lc
theorem ones_okT {x : Str} (h : okT x) (b : Nat → Bool) : ∀ y ∈ ones (x.cps.toList.filter b), okT y := fun y hy => by
  obtain ⟨c, hc, rfl⟩ := List.mem_map.mp hy
  intro d hd
  have e : d = c := by simpa using hd
  rw [e]
  exact h c (List.mem_filter.mp hc).1
theorem ones_nil (l : List Nat) (b : Nat → Bool) : (ones (l.filter fun c => !b c)).isEmpty = l.all b := by
  unfold ones
  rw [List.isEmpty_map]
  induction l with
  | nil => rfl
  | cons c r ih =>
    rw [List.filter_cons, List.all_cons, ← ih]
    cases b c <;> rfl
end Cr
/-! several clauses 'except X as n' -/
namespace Cr
open PySem PySem.Spec PyProof.Rows L2 Evl
abbrev ClA := Value × Nat × (Addr → Value → Option Addr → TS)
/-- a suite's ends, the clause's name taken back -/
abbrev goneE (i : Nat) (D : Ends) : Ends := { nx := fun σ' H' => D.nx (σ'.set i none) H', rt := D.rt, bk := fun σ' H' => D.bk (σ'.set i none) H', ct := fun σ' H' => D.ct (σ'.set i none) H' }
/-- what the clauses wish of an exception of the body, from the first on -/
def wAll (K : PySem.W.Frag) (Wout : WX) (D : Ends) : List ClA → WX
  | [] => Wout
  | (c, i, ts) :: r => fun cls d σ H => ∃ b, PySem.W.exmOne K cls c = some b ∧ (b = true → ∀ a, H a = none → ts a cls d (goneE i D) (σ.set i (some (.ref a))) H) ∧ (b = false → wAll K Wout D r cls d σ H)
inductive ClsOk (X : Cx) : List ExceptHandler → List ClA → Prop
  | nil : ClsOk X [] []
  | cons {x n : Str} {c : Value} {i : Nat} {ts : Addr → Value → Option Addr → TS} {b₀ : Stmt} {suite : List Stmt} {np pos' : Pos} {hds : List ExceptHandler} {l : List ClA} (hi : X.N[i]? = some n) (hln : X.env.kindOf n = some .local) (hc : Names X x c)
      (hsu : ∀ (a : Addr) (oe : Obj) (cls : Value) (d : Option Addr) (pn : List (Addr × Obj)), Zc cls d oe → (∃ vs, oe.data = .fields vs) → PSs (X.suite a ((a, oe) :: pn)) (b₀ :: suite) (ts a cls d)) (r : ClsOk X hds l) :
      ClsOk X (.ExceptHandler (some (.Name x np)) (some n) (b₀ :: suite) pos' :: hds) ((c, i, ts) :: l)
section
variable {X : Cx} {body : List Stmt} {h₀ : ExceptHandler} {hds : List ExceptHandler} {l : List ClA} {pos : Pos} {tb : WX → TS} {Wout : WX}
theorem ps_try_all (hs : X.stack = X.env :: X.outer) (hf : X.env.frame = some X.env.locals) (hN : X.N.Nodup) (tk : Takes X Wout)
    (hb : ∀ (W : WX) (pn : List (Addr × Obj)) (xe : Value → Shared → Prop), Takes (X.tr pn xe) W → PassesOwn (model X.prog X.w) X.A X.env xe → PSs (X.tr pn xe) body (tb W))
    (hh : ClsOk X (h₀ :: hds) l) : PS X (.Try body (h₀ :: hds) [] [] pos) (fun D σ H => tb (wAll X.K Wout D l) D σ H) := by
  refine ⟨fun pins s σ H D I h => ?_⟩
  have ok := I.ok
  have hfr : X.A.frames = some (X.env :: X.outer) := by rw [ok.frames, hs]
  refine wpAny_Try_except ?_
  refine wpAny_mono ((hb (wAll X.K Wout D l) (X.pn ++ pins) (fun e s₁ => wpAny (model X.prog X.w) X.A (noteFrame e X.env) (fun _ s₂ => wpAny (model X.prog X.w) X.A (setFlight e none) (fun _ s₃ =>
    wpAny (model X.prog X.w) X.A (handleBy e X.env (h₀ :: hds)) (SP X pins D) X.xe s₃) X.xe s₂) X.xe s₁) (fun u s' xx => ?_) PassesOwn.looking).run [] s σ H D (I.toTry _) h) (fun f s1 hsp => ?_) (fun e s1 he => he)
  · obtain ⟨a, B, sI, pins', σ', H', cls, d, rfl, J', nb, up, sky, na, os, ag, wish⟩ := xx
    have J : Inv X pins σ' H' sI := J'.ofTry ok
    have sky' : Sky B (X.env :: X.outer) a (Zc cls d) X.env.locals s'.heap := by rw [← hs]; exact sky
    show wpAny (model X.prog X.w) X.A (noteFrame (.ref a) X.env) _ _ _
    refine Sky.land Zc.steady hfr hf sky' fun h0 fl0 up0 => ?_
    have J0 : Inv X pins σ' H' { s' with heap := h0 } := J.landed nb fl0.1 (up.trans up0) os ag
    obtain ⟨oe0, vs0, he0, hz0, hd0⟩ := fl0.there
    have nfr : a ∉ frs (X.env :: X.outer) := fun hm => by
      obtain ⟨_, o', e', hnf⟩ := fl0.2.2.1.mem hm
      rw [he0] at e'; cases e'
      exact hnf _ hd0
    have nL : a ≠ X.env.locals := fun z => nfr (List.mem_filterMap.mpr ⟨X.env, List.mem_cons_self, by rw [hf, z]⟩)
    have nF : a ∉ X.fs := fun hm => by
      obtain ⟨e, he, q⟩ := List.mem_filterMap.mp hm
      exact nfr (List.mem_filterMap.mpr ⟨e, List.mem_cons_of_mem _ he, q⟩)
    have S3 := J0.suite he0 hd0 na nL nF
    have LT : PySem.W.Looks (model X.prog X.w) h0 (typeOf (.ref a)) cls := fun A Q E s k q => wpAny_typeOf_ref (k _ _ he0) (by rw [hz0.1]; exact q)
    suffices go : ∀ {hs' : List ExceptHandler} {l' : List ClA}, ClsOk X hs' l' → wAll X.K Wout D l' cls d σ' H' → wpAny (model X.prog X.w) X.A (handleBy (.ref a) X.env hs') (SP X pins D) X.xe { s' with heap := h0 } from go hh wish
    intro hs' l' ck
    induction ck with
    | nil =>
      intro wish
      refine wpAny_handleBy_nil ?_
      obtain ⟨k1, k2, k3, oe, vs, T, oT, ts', he, hz, hd, h1, hr⟩ := id fl0
      unfold PySem.passOn
      refine wpAny_bind (wpAny_field he hd h1 ?_)
      rw [if_neg (show ¬ ((Value.ref T == Value.none) = true) from by simp)]
      have out : wpAny (model X.prog X.w) X.A (setFlight (.ref a) X.env.frame) (fun _ s4 => wpAny (model X.prog X.w) X.A (throw (.ref a) : Sem Flow) (SP X pins D) X.xe s4) X.xe { s' with heap := h0 } := by
        rw [hf]
        exact HandSPX.setFlight_upZ fl0 fun h4 hh4 up4 => wpAny_throw (tk _ _ ⟨a, B, sI, pins, σ', H', cls, d, rfl, J, nb, (up.trans up0).trans up4, .inr (.inr (by rw [hs]; exact hh4)), na, os, ag, wish⟩)
      first
        | exact wpAny_bind (wpAny_pure (wpAny_bind out))
        | exact wpAny_bind out
    | @cons x n c i ts b₀ suite np pos' hds2 l2 hi hln hc hsu r ih =>
      rintro ⟨b, hb1, hyes, hno⟩
      have hloc : Loc X.env.scope n := .inl hln
      refine wpAny_handleBy_cons (codeAny_handlers_test ?_) (by intro q; cases q)
      have test : ∀ {Q : Value → Shared → Prop} {E : Value → Shared → Prop}, Q c { s' with heap := h0 } → wpAny (model X.prog X.w) (X.A.mark (some (.ref a))) (eval (.Name x np) X.env) Q E { s' with heap := h0 } := fun {Q E} q => by
        obtain ⟨hg, hdbg, hm | ⟨hm, hv, hnn⟩⟩ := hc
        · exact ld_glob (X := X.suite a ((a, oe0) :: (X.pn ++ pins))) S3 hg hm q hdbg
        · exact ld_blt (X := X.suite a ((a, oe0) :: (X.pn ++ pins))) S3 hg hm hv q hnn hdbg
      refine test ((PySem.W.exm_one (M := model X.prog X.w) J0.kIn LT hb1).here ?_)
      cases b with
      | false =>
        show wpAny _ X.A (handleBy (.ref a) X.env hds2) _ _ _
        exact ih (hno rfl)
      | true =>
        refine codeAny_handlers_suite_as ?_
        refine HandSPX.lands_againZ fl0 fun h4 fl4 up4 => ?_
        have J4 : Inv X pins σ' H' { s' with heap := h4 } := J.landed nb fl4.1 ((up.trans up0).trans up4) os ag
        obtain ⟨oe4, vs4, he4, hz4, hd4⟩ := fl4.there
        have S4 := J4.suite he4 hd4 na nL nF
        refine store_ok (X := X.suite a ((a, oe4) :: (X.pn ++ pins))) (v := .ref a) S4 hN hi hloc rfl (fun s5 S5 => ?_) (.inr hln)
        refine wpAny_mono ((hsu a oe4 cls d (X.pn ++ pins) hz4 ⟨_, hd4⟩).run [] s5 _ H' _ S5 (hyes rfl a na)) (fun f s6 hsp => ?_) (fun _ _ z => False.elim z)
        have end_ : ∀ {σ6 : L2.St} {H6 : Hp} {Q : Shared → Prop}, Inv (X.suite a ((a, oe4) :: (X.pn ++ pins))) [] σ6 H6 s6 → (∀ s7, Inv X pins (σ6.set i none) H6 s7 → Q s7) →
            wpAny (model X.prog X.w) X.A (do bindName X.env n .none; unbindBehindTheSuite X.env n pos') (fun _ s7 => Q s7) X.xe s6 := fun {σ6 H6 Q} S6 hq => gone_ok (S6.unsuite ok) hN hi hln hq
        cases f with
        | next =>
          obtain ⟨σ6, H6, S6, q6⟩ := hsp
          exact end_ S6 fun s7 J7 => ⟨_, _, J7, q6⟩
        | brk =>
          obtain ⟨σ6, H6, S6, q6⟩ := hsp
          exact end_ S6 fun s7 J7 => ⟨_, _, J7, q6⟩
        | cont =>
          obtain ⟨σ6, H6, S6, q6⟩ := hsp
          exact end_ S6 fun s7 J7 => ⟨_, _, J7, q6⟩
        | ret u =>
          obtain ⟨v6, σ6, H6, S6, r6, q6⟩ := hsp
          exact end_ S6 fun s7 J7 => ⟨_, _, _, J7, r6, q6⟩
  · cases f with
    | next =>
      obtain ⟨σ', H', J', q⟩ := hsp
      exact wpAny_execs_nil ⟨σ', H', J'.ofTry ok, q⟩
    | brk =>
      obtain ⟨σ', H', J', q⟩ := hsp
      exact ⟨σ', H', J'.ofTry ok, q⟩
    | cont =>
      obtain ⟨σ', H', J', q⟩ := hsp
      exact ⟨σ', H', J'.ofTry ok, q⟩
    | ret u =>
      obtain ⟨v, σ', H', J', r, q⟩ := hsp
      exact ⟨v, σ', H', J'.ofTry ok, r, q⟩
end
end Cr
/-! k44: _law_is_label, _law_told -/
namespace Cr
open PySem PySem.Spec PyProof.Rows L2 Evl
abbrev sIsLb : Stmt := topS 30
abbrev nIsLb : List Str := ["_law_thing", "_law_letter"]
theorem scIsLb : FnScope nIsLb ["_law_thing"] (defScope sIsLb) := ⟨rfl, rfl, rfl, by decide +kernel, rfl, by decide +kernel, by decide +kernel⟩
abbrev sTo4 : Stmt := topS 29
abbrev nTo4 : List Str := ["_law_registry", "_law_module", "_law_label", "_law_number", "_law_told_here", "e", "_law_others"]
theorem scTo4 : FnScope nTo4 ["_law_registry", "_law_module", "_law_label", "_law_number"] (defScope sTo4) := ⟨rfl, rfl, rfl, by decide +kernel, rfl, by decide +kernel, by decide +kernel⟩
theorem low_chain4 (c : Nat) : (!decide ((⟨#[c]⟩ : Str).cps.toList < (("a" : Str)).cps.toList) && !decide ((("z" : Str)).cps.toList < (⟨#[c]⟩ : Str).cps.toList)) = isLow c := by
  have ea : (("a" : Str)).cps.toList = [97] := by decide +kernel
  have ez : (("z" : Str)).cps.toList = [122] := by decide +kernel
  have ec : (⟨#[c]⟩ : Str).cps.toList = [c] := rfl
  rw [ea, ez, ec, one_lt, one_lt]
  unfold isLow
  congr 1
  · by_cases hc : 97 ≤ c
    · rw [decide_eq_true hc, decide_eq_false (show ¬ c < 97 by omega)]; rfl
    · rw [decide_eq_false hc, decide_eq_true (show c < 97 by omega)]; rfl
  · by_cases hc : c ≤ 122
    · rw [decide_eq_true hc, decide_eq_false (show ¬ 122 < c by omega)]; rfl
    · rw [decide_eq_false hc, decide_eq_true (show 122 < c by omega)]; rfl
theorem isT_strX {d : PyData} (h : isT "str" d = true) : ∃ s, d = .str s := by
  cases d <;> first | exact ⟨_, rfl⟩ | exact absurd h (by nofun)
/-- texts of plain signs -/
def txOk : PyData → Prop
  | .str x => okT x ∧ x.length ≤ 1000
  | _ => True
def spIsLb : Sp := fun vs H Q _ => ∃ v d, vs = [v] ∧ Dt H v d ∧ txOk d ∧ ∀ H', Ex H H' → Q (.bl (isName d)) H'
/-- the classes of the errors -/
structure ErrQ4 (K : PySem.W.Frag) (mg : Str → Option Value) (CW CN CI CM CL : Addr) : Prop where
  gW : mg "WrongState" = some (.ref CW)
  gN : mg "InvalidName" = some (.ref CN)
  gI : mg "InvalidNumber" = some (.ref CI)
  gM : mg "InvalidModules" = some (.ref CM)
  gL : mg "LoaderError" = some (.ref CL)
  ecW : ExcC K CW
  ecN : ExcC K CN
  ecI : ExcC K CI
  wm : PySem.W.findIn K (.ref CW) "module" = some none
  wf : PySem.W.findIn K (.ref CW) "found" = some none
  nv : PySem.W.findIn K (.ref CN) "value" = some none
  xWW : PySem.W.exmOne K (.ref CW) (.ref CW) = some true
  xNW : PySem.W.exmOne K (.ref CN) (.ref CW) = some false
  xNN : PySem.W.exmOne K (.ref CN) (.ref CN) = some true
  xIW : PySem.W.exmOne K (.ref CI) (.ref CW) = some false
  xIN : PySem.W.exmOne K (.ref CI) (.ref CN) = some false
  xII : PySem.W.exmOne K (.ref CI) (.ref CI) = some true
  wR : PySem.W.kitOne K (.ref CW) (.type "RuntimeError") = some true
  nM : PySem.W.kitOne K (.ref CN) (.ref CM) = some false
  nI : PySem.W.kitOne K (.ref CN) (.ref CI) = some false
  nL : PySem.W.kitOne K (.ref CN) (.ref CL) = some true
  nV : PySem.W.kitOne K (.ref CN) (.type "ValueError") = some true
  iL : PySem.W.kitOne K (.ref CI) (.ref CL) = some true
  iV : PySem.W.kitOne K (.ref CI) (.type "ValueError") = some true
  iM : PySem.W.kitOne K (.ref CI) (.ref CM) = some false
theorem xfOf4 {K : PySem.W.Frag} {C : Addr} (h : ExcC K C) : XfC K C := ⟨h.hg, h.hk, h.hs, h.hd⟩
def tOnly4 (C : Addr) (t : Addr → TS) (cls : Value) (d : Option Addr) : TS := fun D σ H => ∃ dd, cls = .ref C ∧ d = some dd ∧ t dd D σ H
def tBare4 (C : Addr) (t : TS) (cls : Value) (d : Option Addr) : TS := fun D σ H => cls = .ref C ∧ d = none ∧ t D σ H
abbrev tIs4 (K : PySem.W.Frag) (C a dd : Addr) (c : TE) : TE := tCB (rIsX K C a dd) (tCons (tVar 5) (tCons c tNil))
abbrev tIsB4 (K : PySem.W.Frag) (C a : Addr) (c : TE) : TE := tCB (rIsP K C a none) (tCons (tVar 5) (tCons c tNil))
def s4W (K : PySem.W.Frag) (CW a dd : Addr) : TS := tAsg (tLst (tCons (tXf a (.ref CW) (some dd) CW "module" (tVar 5)) (tCons (tXf a (.ref CW) (some dd) CW "found" (tVar 5)) (tCons (tIs4 K CW a dd (tC (.ty "RuntimeError"))) tNil)))) (gName 4)
def s4N (K : PySem.W.Frag) (CN CI CM CL a dd : Addr) : TS := tSeq (tAsg (tOrV (tIs4 K CN a dd (tTup (tCons (tC (.ref CM)) (tCons (tC (.ref CI)) tNil)))) (tNotV (tIs4 K CN a dd (tC (.ref CL))))) (gName 6))
  (tAsg (tLst (tCons (tC (.str "name")) (tCons (tCB rRepr (tCons (tXf a (.ref CN) (some dd) CN "value" (tVar 5)) tNil)) (tCons (tIs4 K CN a dd (tC (.ty "ValueError"))) (tCons (tVar 6) tNil))))) (gName 4))
def s4I (K : PySem.W.Frag) (CI CM CL a : Addr) : TS := tAsg (tLst (tCons (tC (.str "number")) (tCons (tAndV (tIsB4 K CI a (tC (.ref CL))) (tIsB4 K CI a (tC (.ty "ValueError")))) (tCons (tIsB4 K CI a (tC (.ref CM))) tNil)))) (gName 4)
def wrongD (R : Rg) (m : Str) : PyData := .list [.str m, .str (stM R m), .bool true]
def noNameD (d : PyData) : PyData := .list [.str "name", .str d.shown, .bool true, .bool false]
def noNumD : PyData := .list [.str "number", .bool true, .bool false]
def spTo4 (C CG : Addr) : Sp := fun vs H Q _ => ∃ x m lv nv ld nd HB A U R, vs = [.ref x, .str m, lv, nv] ∧ RgAt C CG HB H x A U R ∧ m ∈ U ∧ Dt H lv ld ∧ sm ld = true ∧ cpyTo 3 ld ∧ Fits ld ∧ Dt H nv nd ∧ sm nd = true ∧ (∀ r ∈ R.ex, r.2.2.length ≤ 1000) ∧
  (stM R m = "running" → ∀ l i, ld = .str l → isNameS l = true → nd = .int i → ∀ a e H', getA R.ex m = some (a, e) → RgTo C CG HB H H' x A U R (xpR R m l i a e) → Q (.str "done") H') ∧
  (stM R m ≠ "running" → ∀ v H', Ex H H' → Dt H' v (wrongD R m) → Q v H') ∧
  (stM R m = "running" → isName ld = false → ∀ v H', Ex H H' → Dt H' v (noNameD ld) → Q v H') ∧
  (stM R m = "running" → isName ld = true → isInteger nd = false → ∀ v H', Ex H H' → Dt H' v noNumD → Q v H')
section
variable {P : Program} {w : World} {K : PySem.W.Frag} {mg : Str → Option Value} {base : Heap}
theorem ok_isLb {f : Addr} {fd : FuncData} {k : Nat} (F : Fun K "_law_is_label" "_law_is_label" sIsLb f fd) (B : Blt mg) : FnOk P w K mg base CX0 (k + 1) f fd ["_law_thing"] spIsLb := by
  refine F.ok scIsLb (fun vs H Q E h => by obtain ⟨_, _, rfl, _⟩ := h; rfl) (fun cdv A outer s H vs Q E hr h => ?_)
  obtain ⟨v, d, rfl, hd, ok, q⟩ := h
  refine ⟨_, pss_cons (ps_if (pt_not (pt_val (pe_callB call_isi (by rfl) B.isi bIsi (pa_cons (pv 0) (pa_cons (pe_bltn (v := .ty "str") (by rfl) B.str bStr rfl) pa_nil))))) (pss_one (ps_ret pe_bl)) pss_nil)
    (pss_one (ps_ret (pe_and (pe_chain op_lt op_lt pe_int (pe_callB call_len_str (by rfl) B.len bLen (pa_cons (pv 0) pa_nil)) pe_int) (pe_one (pe_cmpR (op_eqDt hr.units)
    (pe_lc (own := [("_law_letter", 1)]) (g := gName 1) rfl scIsLb.nd (pi_str (pv 0)) (blkOk_by (own := [("_law_letter", 1)]) (N := nIsLb) (sc := defScope sIsLb) (by decide +kernel))
        (fun _ _ _ _ _ => pg_name (i := 1) scIsLb.nd rfl (Or.inl rfl)) (fun _ _ _ _ _ => by exact pts_one (pt_not (pt_chain op_leS op_leS pe_str (pv 1) pe_str))) (fun _ _ _ _ _ => pv 1)) (pe_lst pa_nil) (nomark _)))))), ?_⟩
  have isS : Ev (tCB (rIsi K) (tCons (tVar 0) (tCons (tC (.ty "str")) tNil))) [some v, none] H (.bl (isT "str" d)) := ev_cb (ea_cons (ev_var rfl) (ea_cons ev_c ea_nil)) (rc_isi hd (by simp))
  cases hT : isT "str" d with
  | false =>
    rw [hT] at isS
    refine q_when (b := true) (et_is (et_not (et_B isS)) rfl) (fun _ H1 e1 => ?_) (fun z => nomatch z)
    have z : isName d = false := by cases d <;> first | rfl | exact nomatch hT
    exact s_ret ev_c fun H2 e2 => by
      have y := q H2 (e1.trans e2)
      rw [z] at y
      exact y
  | true =>
    rw [hT] at isS
    refine q_when (b := false) (et_is (et_not (et_B isS)) rfl) (fun z => nomatch z) (fun _ H1 e1 => ?_)
    obtain ⟨x, rfl⟩ : ∃ x, d = .str x := isT_strX hT
    have ev : v = .str x := by cases hd; rfl
    subst ev
    obtain ⟨ok, hx⟩ := ok
    refine s_ret (v := .bl (isNameS x)) (ev_is (ev_andV (ev_chain ev_c (ev_cb (ea_cons (ev_var rfl) ea_nil) (rc_lenS hx)) rv_I0 (fun _ => ev_c) fun _ => rv_I0)
      fun _ => ev_nilS (xs := ones (x.cps.toList.filter fun c => !isLow c)) (el_signs (x := x) (fun c => !isLow c) hx (ev_var rfl) (fun v => rfl) (by show 1 < 2; decide) fun c H1 e1 => ?_) (ones_okT ok _)) ?_) fun H2 e2 => q H2 (e1.trans e2)
    · refine et_not ?_
      rw [← low_chain4 c]
      exact et_test (ev_chain ev_c (ev_var rfl) rv_leS (fun _ => ev_c) fun _ => rv_leS)
    · have e1 : decide ((0 : Int) < (x.length : Int)) = decide ((1 : Int) ≤ x.length) := decide_eq_decide.mpr (by omega)
      have e2 : decide ((x.length : Int) < 9) = decide ((x.length : Int) ≤ 8) := decide_eq_decide.mpr (by omega)
      rw [ones_nil, e1, e2]
      rfl
end
end Cr
/-! k44: _law_told -/
namespace Cr
open PySem PySem.Spec PyProof.Rows L2 Evl
section
variable {P : Program} {w : World} {K : PySem.W.Frag} {mg : Str → Option Value} {base : Heap}
theorem ok_to4 {f C CG CW CN CI CM CL : Addr} {fd : FuncData} {k : Nat} (F : Fun K "_law_told" "_law_told" sTo4 f fd) (B : Blt mg) (TR : RgC K mg C) (T : ErrQ4 K mg CW CN CI CM CL)
    (h7 : HasM P w K mg base (L2.CX P w) k C "export" ["self", "module", "name", "value"] (spRXa C CG CW CN CI 3)) : FnG P w K mg base CX0 (k + 1) f fd ["_law_registry", "_law_module", "_law_label", "_law_number"] (spTo4 C CG) := by
  obtain ⟨f7, d7, G7, b7, m7⟩ := h7.ex
  refine okG F scTo4 (fun vs H Q E h => by obtain ⟨_, _, _, _, _, _, _, _, _, _, rfl, _⟩ := h; rfl) (fun cdv A outer s H vs Q E hq hr h => ?_)
  obtain ⟨x, m, lv, nv, ld, nd, HB, A', U, R, rfl, rg, hm, hl, hls, hlc, fit, hn, hns, few, q, qw, qn, qi⟩ := h
  refine ⟨_, pss_cons (ps_set (i := 4) scTo4.nd rfl (.inl rfl) pe_str)
    (pss_cons (ps_try_all (l := [((.ref CW : Value), 5, fun a => tOnly4 CW fun dd => s4W K CW a dd), ((.ref CN : Value), 5, fun a => tOnly4 CN fun dd => s4N K CN CI CM CL a dd), ((.ref CI : Value), 5, fun a => tBare4 CI (s4I K CI CM CL a))]) (Wout := fun _ _ _ _ => False) rfl rfl scTo4.nd takes0
        (fun W pn xe tk po => pss_one (ps_expr (methS (E := WE W) (pv 0) TR.cl m7 G7 hr b7 (fun σ => passAt tk σ) (pa_cons (pv 1) (pa_cons (pv 2) (pa_cons (pv 3) pa_nil))))))
        (.cons (by rfl) (by rfl) ⟨by rfl, by decide, .inl T.gW⟩ (fun a oe cls d pn hz hf => ⟨fun pins s σ H D I h => by
          obtain ⟨dd, rfl, rfl, h⟩ := h
          exact PSs.run (pss_one (ps_set (i := 4) scTo4.nd rfl (.inl rfl) (pe_lst (pa_cons (pe_xf (xfOf4 T.ecW) T.wm hz hf (pv 5)) (pa_cons (pe_xf (xfOf4 T.ecW) T.wf hz hf (pv 5)) (pa_cons (pe_callB (call_isX T.ecW hz hf) (by rfl) B.isi bIsi (pa_cons (pv 5) (pa_cons (pe_bltn (v := .ty "RuntimeError") (by rfl) B.rerr bRerr rfl) pa_nil))) pa_nil)))))) pins s σ H D I h⟩)
        (.cons (by rfl) (by rfl) ⟨by rfl, by decide, .inl T.gN⟩ (fun a oe cls d pn hz hf => ⟨fun pins s σ H D I h => by
          obtain ⟨dd, rfl, rfl, h⟩ := h
          exact PSs.run (pss_cons (ps_set (i := 6) scTo4.nd rfl (.inl rfl) (pe_or (pe_callB (call_isX T.ecN hz hf) (by rfl) B.isi bIsi (pa_cons (pv 5) (pa_cons (pe_tup (pa_cons (pe_glob (v := .ref CM) (by rfl) T.gM rfl) (pa_cons (pe_glob (v := .ref CI) (by rfl) T.gI rfl) pa_nil))) pa_nil))) (pe_one (pe_not (pe_callB (call_isX T.ecN hz hf) (by rfl) B.isi bIsi (pa_cons (pv 5) (pa_cons (pe_glob (v := .ref CL) (by rfl) T.gL rfl) pa_nil)))))))
            (pss_one (ps_set (i := 4) scTo4.nd rfl (.inl rfl) (pe_lst (pa_cons pe_str (pa_cons (pe_callB (call_reprG (by exact hq) (by exact hr.units)) (by rfl) B.repr bRepr (pa_cons (pe_xf (xfOf4 T.ecN) T.nv hz hf (pv 5)) pa_nil)) (pa_cons (pe_callB (call_isX T.ecN hz hf) (by rfl) B.isi bIsi (pa_cons (pv 5) (pa_cons (pe_bltn (v := .ty "ValueError") (by rfl) B.verr bVerr rfl) pa_nil))) (pa_cons (pv 6) pa_nil)))))))) pins s σ H D I h⟩)
        (.cons (by rfl) (by rfl) ⟨by rfl, by decide, .inl T.gI⟩ (fun a oe cls d pn hz hf => ⟨fun pins s σ H D I h => by
          obtain ⟨rfl, rfl, h⟩ := h
          exact PSs.run (pss_one (ps_set (i := 4) scTo4.nd rfl (.inl rfl) (pe_lst (pa_cons pe_str (pa_cons (pe_and (pe_callB (call_isP T.ecI List.mem_cons_self hz hf) (by rfl) B.isi bIsi (pa_cons (pv 5) (pa_cons (pe_glob (v := .ref CL) (by rfl) T.gL rfl) pa_nil))) (pe_one (pe_callB (call_isP T.ecI List.mem_cons_self hz hf) (by rfl) B.isi bIsi (pa_cons (pv 5) (pa_cons (pe_bltn (v := .ty "ValueError") (by rfl) B.verr bVerr rfl) pa_nil)))))
            (pa_cons (pe_callB (call_isP T.ecI List.mem_cons_self hz hf) (by rfl) B.isi bIsi (pa_cons (pv 5) (pa_cons (pe_glob (v := .ref CM) (by rfl) T.gM rfl) pa_nil))) pa_nil)))))) pins s σ H D I h⟩) .nil))))
    (pss_one (ps_ret (pv 4)))), ?_⟩
  refine q_asg ev_c fun H1 e1 => ?_
  have rg1 := rg.ex e1
  have isOne : ∀ {D a dx : Addr} {fs : List (Str × V)} {H2 H3 : Hp} {σ : L2.St} {c : V} {u : Value} {b : Bool}, H2 dx = some (.xd fs) → Ex H2 H3 → σ[5]? = some (some (.ref a)) → ClsV c u → PySem.W.kitOne K (.ref D) u = some b → Ev (tIs4 K D a dx (tC c)) σ H3 (.bl b) := fun hx e3 h3 kc kb H4 e4 Q' q' =>
      ⟨.ref _, h3, _, _, rfl, ⟨_, e4 _ _ (e3 _ _ hx)⟩, .inl ⟨_, kc, kb⟩, q' _ (Ex.refl _)⟩
  have isBare : ∀ {D a : Addr} {H3 : Hp} {σ : L2.St} {c : V} {u : Value} {b : Bool}, σ[5]? = some (some (.ref a)) → ClsV c u → PySem.W.kitOne K (.ref D) u = some b → Ev (tIsB4 K D a (tC c)) σ H3 (.bl b) := fun h3 kc kb H4 e4 Q' q' =>
      ⟨.ref _, h3, _, _, rfl, (fun dd z => nomatch z), .inl ⟨_, kc, kb⟩, q' _ (Ex.refl _)⟩
  have xf2 : ∀ {D a dx : Addr} {n1 n2 : Str} {v u : V} {d : PyData} {H2 : Hp} {σ : L2.St}, (n1 == n2) = false → H2 dx = some (.xd [(n2, u), (n1, v)]) → σ[5]? = some (some (.ref a)) → Dt H2 v d → EvD (tXf a (.ref D) (some dx) D n1 (tVar 5)) σ H2 d := fun {D a dx n1 n2 v u d H2 σ} ne hx h5 hd H4 e4 Q' q' =>
    ⟨.ref a, h5, rfl, rfl, dx, _, v, rfl, e4 _ _ hx, by rw [List.lookup, ne, List.lookup, beq_self_eq_true], q' _ H4 (Ex.refl _) (Dt.ex e4 hd)⟩
  have xf1 : ∀ {D a dx : Addr} {n2 : Str} {u : V} {d : PyData} {fs : List (Str × V)} {H2 : Hp} {σ : L2.St}, H2 dx = some (.xd ((n2, u) :: fs)) → σ[5]? = some (some (.ref a)) → Dt H2 u d → EvD (tXf a (.ref D) (some dx) D n2 (tVar 5)) σ H2 d := fun {D a dx n2 u d fs H2 σ} hx h5 hd H4 e4 Q' q' =>
    ⟨.ref a, h5, rfl, rfl, dx, _, u, rfl, e4 _ _ hx, by rw [List.lookup, beq_self_eq_true], q' _ H4 (Ex.refl _) (Dt.ex e4 hd)⟩
  refine ⟨.ref x, rfl, x, A'.dx, _, rfl, rg1.ob, rfl, .str m, rfl, lv, rfl, nv, rfl, x, m, lv, nv, ld, nd, HB, A', U, R, rfl, rg1, hm, Dt.ex e1 hl, hls, hlc, Dt.ex e1 hn, hns, few, fun run l i el hnm en a e H3 hg to => ?_, fun ne dx H3 r => ?_, fun run no dx H3 r => ?_, fun run ok no H3 e3 => ?_⟩
  · exact s_ret (v := .str "done") (ev_var (i := 4) rfl) fun H4 e4 => q run l i el hnm en a e H4 hg (RgTo.ex (RgTo.from e1 to) e4)
  · refine ⟨true, T.xWW, fun _ a ha => ⟨dx, rfl, rfl, ?_⟩, fun z => nomatch z⟩
    obtain ⟨v, u, hx, hv, hu⟩ := r.at_
    unfold s4W
    refine evd_lst (evda_cons (xf2 (a := a) (σ := [some (.ref x), some (.str m), some lv, some nv, some (.str "done"), some (.ref a), none]) (by decide +kernel) hx rfl hv) (evda_cons (xf1 hx rfl hu) (evda_cons (evd_of (isOne hx (Ex.refl _) rfl (.ty "RuntimeError") T.wR) (.bl _)) evda_nil))) (by show 3 ≤ 1000; decide) H3 (Ex.refl H3) _ fun v H5 e5 hv => ?_
    exact s_ret (v := v) (ev_var (i := 4) rfl) fun H6 e6 => qw ne v H6 ((e1.trans r.ex).trans (e5.trans e6)) (Dt.ex e6 hv)
  · refine ⟨false, T.xNW, (fun z => nomatch z), fun _ => ⟨true, T.xNN, fun _ a ha => ⟨dx, rfl, rfl, ?_⟩, fun z => nomatch z⟩⟩
    obtain ⟨u, hx, hu⟩ := r.at_
    unfold s4N
    have i1 : Ev (tIs4 K CN a dx (tTup (tCons (tC (.ref CM)) (tCons (tC (.ref CI)) tNil)))) [some (.ref x), some (.str m), some lv, some nv, some (.str "done"), some (.ref a), none] H3 (.bl false) := fun H4 e4 Q' q' =>
      ⟨.ref a, rfl, by show 2 ≤ sizeLine; decide, fun tp ztp => ⟨.ref tp, false, rfl, ⟨_, Ex.new ztp _ _ (e4 _ _ hx)⟩, .inr ⟨tp, _, [.ref CM, .ref CI], rfl, upd_same, .cons (.own CM) (.cons (.own CI) .nil), kitAny_cons T.nM (fun _ => kitAny_cons T.nI (fun _ => kitAny_nil) (fun z => nomatch z)) (fun z => nomatch z)⟩, q' _ (Ex.new ztp)⟩⟩
    refine q_asg (v := .bl false) (ev_is (ev_orV (a := false) (b := false) i1 fun _ => ev_is (ev_notV (a := true) (isOne (a := a) hx (Ex.refl _) rfl (.own CL) T.nL)) rfl) rfl) fun H4 e4 => ?_
    have hx4 := e4 _ _ hx
    have xv : EvD (tXf a (.ref CN) (some dx) CN "value" (tVar 5)) [some (.ref x), some (.str m), some lv, some nv, some (.str "done"), some (.ref a), some (.bl false)] H4 ld := xf1 hx4 rfl (Dt.ex e4 hu)
    have rp : EvD (tCB rRepr (tCons (tXf a (.ref CN) (some dx) CN "value" (tVar 5)) tNil)) [some (.ref x), some (.str m), some lv, some nv, some (.str "done"), some (.ref a), some (.bl false)] H4 (.str ld.shown) := fun H5 e5 Q' q' => xv H5 e5 _ fun z H6 e6 hz => ⟨z, ld, rfl, hz, fit, q' _ H6 e6 (.str _)⟩
    refine evd_lst (evda_cons evd_str (evda_cons rp (evda_cons (evd_of (isOne hx4 (Ex.refl _) rfl (.ty "ValueError") T.nV) (.bl _)) (evda_cons (evd_var (i := 6) rfl (.bl false)) evda_nil)))) (by show 4 ≤ 1000; decide) H4 (Ex.refl H4) _ fun v H5 e5 hv => ?_
    exact s_ret (v := v) (ev_var (i := 4) rfl) fun H6 e6 => qn run no v H6 (((e1.trans r.ex).trans e4).trans (e5.trans e6)) (Dt.ex e6 hv)
  · refine ⟨false, T.xIW, (fun z => nomatch z), fun _ => ⟨false, T.xIN, (fun z => nomatch z), fun _ => ⟨true, T.xII, fun _ a ha => ⟨rfl, rfl, ?_⟩, fun z => nomatch z⟩⟩⟩
    unfold s4I
    refine evd_lst (σ := [some (.ref x), some (.str m), some lv, some nv, some (.str "done"), some (.ref a), none]) (evda_cons evd_str (evda_cons (evd_of (ev_is (ev_andV (a := true) (b := true) (isBare (a := a) rfl (.own CL) T.iL) fun _ => isBare rfl (.ty "ValueError") T.iV) rfl) (.bl true)) (evda_cons (evd_of (isBare rfl (.own CM) T.iM) (.bl _)) evda_nil))) (by show 3 ≤ 1000; decide) H3 (Ex.refl H3) _ fun v H5 e5 hv => ?_
    exact s_ret (v := v) (ev_var (i := 4) rfl) fun H6 e6 => qi run ok no v H6 ((e1.trans e3).trans (e5.trans e6)) (Dt.ex e6 hv)
end
end Cr
/-! k44: a registry beside the law's dict of exports -/
namespace Cr
open PySem PySem.Spec PyProof.Rows L2 Evl
def ownD (d : Addr) (dx : XRows) : List Addr := d :: dx.map xAd
def exD (dx : XRows) (m : Str) : Ints := ((getA dx m).map (·.2)).getD []
structure DueAt (H : Hp) (d : Addr) (dx : XRows) : Prop where
  hD : H d = some (.dK (kvX dx))
  hI : ∀ r ∈ dx, H r.2.1 = some (.dK (kvInt r.2.2))
  nn : (ownD d dx).Nodup
  kn : (dx.map (·.1)).Nodup
theorem DueAt.ex {H H' : Hp} {d : Addr} {dx : XRows} (h : DueAt H d dx) (e : Ex H H') : DueAt H' d dx := ⟨e _ _ h.hD, fun r hr => e _ _ (h.hI r hr), h.nn, h.kn⟩
theorem DueAt.own_some {H : Hp} {d : Addr} {dx : XRows} (h : DueAt H d dx) : ∀ a ∈ ownD d dx, ∃ kvs, H a = some (.dK kvs) := fun a ha => by
  rcases List.mem_cons.mp ha with rfl | ha
  · exact ⟨_, h.hD⟩
  · obtain ⟨r, hr, rfl⟩ := List.mem_map.mp ha
    exact ⟨_, h.hI r hr⟩
theorem DueAt.but {H H' : Hp} {d : Addr} {dx : XRows} {l : List Addr} (h : DueAt H d dx) (b : But l H H') (n : ∀ a ∈ ownD d dx, a ∉ l) : DueAt H' d dx :=
  ⟨b _ _ (n _ List.mem_cons_self) h.hD, fun r hr => b _ _ (n _ (List.mem_cons_of_mem _ (List.mem_map_of_mem (f := xAd) hr))) (h.hI r hr), h.nn, h.kn⟩
/-- registry, dict and pot stand apart -/
structure Ap44 (C CG p x d : Addr) (HB H : Hp) (A : RgA) (U : List Str) (R : Rg) (dx : XRows) : Prop where
  rg : RgAt C CG HB H x A U R
  du : DueAt H d dx
  pot : Pot H p
  zp : HB p = none
  pR : p ∉ ownR A R
  pD : p ∉ ownD d dx
  dR : ∀ a ∈ ownD d dx, a ∉ ownR A R ∧ HB a = none
section
variable {C CG p x d : Addr} {HB H H' : Hp} {A : RgA} {U : List Str} {R R' : Rg} {dx dx' : XRows}
theorem Ap44.ex (h : Ap44 C CG p x d HB H A U R dx) (e : Ex H H') : Ap44 C CG p x d HB H' A U R dx := ⟨h.rg.ex e, h.du.ex e, h.pot.ex e, h.zp, h.pR, h.pD, h.dR⟩
theorem Ap44.drew (h : Ap44 C CG p x d HB H A U R dx) (r : Drew p H H') : Ap44 C CG p x d HB H' A U R dx := by
  have b : But [p] H H' := fun a o n h => r.at (fun e => n (by rw [e]; exact List.mem_cons_self)) h
  obtain ⟨i, j, hp, _⟩ := h.pot
  refine ⟨h.rg.butR b (fun a ha z => h.pR (by rw [← List.mem_singleton.mp z]; exact ha)) (fun a ha C dx fs z => ?_) (fun a ha => by rw [List.mem_singleton.mp ha]; exact h.zp), h.du.but b (fun a ha z => h.pD (by rw [← List.mem_singleton.mp z]; exact ha)), r.pot, h.zp, h.pR, h.pD, h.dR⟩
  rw [List.mem_singleton.mp ha, hp] at z
  cases z
theorem Ap44.reg (h : Ap44 C CG p x d HB H A U R dx) (to : RgTo C CG HB H H' x A U R R') : Ap44 C CG p x d HB H' A U R' dx := by
  have out : ∀ {a : Addr} {o : HO}, a ∉ ownR A R → H a = some o → a ∉ ownR A R' := fun {a o} n ho z => (to.2.2 a z).elim n fun y => by rw [ho] at y; cases y
  obtain ⟨i, j, hp, r⟩ := h.pot
  refine ⟨to.1, h.du.but to.2.1 (fun a ha => (h.dR a ha).1), ⟨i, j, to.2.1 _ _ h.pR hp, r⟩, h.zp, out h.pR hp, h.pD, fun a ha => ?_⟩
  obtain ⟨kvs, ho⟩ := h.du.own_some a ha
  exact ⟨out (h.dR a ha).1 ho, (h.dR a ha).2⟩
theorem Ap44.due (h : Ap44 C CG p x d HB H A U R dx) (b : But (ownD d dx) H H') (du' : DueAt H' d dx') (nw : ∀ a ∈ ownD d dx', a ∈ ownD d dx ∨ H a = none) : Ap44 C CG p x d HB H' A U R dx' := by
  obtain ⟨i, j, hp, r⟩ := h.pot
  refine ⟨h.rg.butR b (fun a ha z => (h.dR a z).1 ha) (fun a ha C dx fs z => ?_) (fun a ha => (h.dR a ha).2), du', ⟨i, j, b _ _ h.pD hp, r⟩, h.zp, h.pR, fun z => ?_, fun a ha => ?_⟩
  · obtain ⟨kvs, ho⟩ := h.du.own_some a ha
    rw [ho] at z
    cases z
  · rcases nw p z with y | y
    · exact h.pD y
    · rw [hp] at y; cases y
  · rcases nw a ha with y | y
    · exact h.dR a y
    · refine ⟨fun z => ?_, fresh_back h.rg.bx y⟩
      obtain ⟨o, ho, _⟩ := h.rg.own_some z
      rw [y] at ho
      cases ho
/-- what isn't anyone's -/
theorem Ap44.free (h : Ap44 C CG p x d HB H A U R dx) {a : Addr} (z : H a = none) : a ≠ p ∧ a ∉ ownR A R ∧ a ∉ ownD d dx := by
  refine ⟨fun e => ?_, fun e => ?_, fun e => ?_⟩
  · obtain ⟨i, j, hp, _⟩ := h.pot
    rw [← e, z] at hp
    cases hp
  · obtain ⟨o, ho, _⟩ := h.rg.own_some e
    rw [z] at ho
    cases ho
  · obtain ⟨o, ho⟩ := h.du.own_some a e
    rw [z] at ho
    cases ho
end
/-- no needs, no early accesses, no long chains -/
structure Qt44 (R : Rg) : Prop where
  ga : ∀ q : Pr, q.2 ∉ tgS R.ga q.1
  ch : ∀ y c, chR R y = some c → c.length ≤ 1
/-! ### the start -/
abbrev sStd : Stmt := topS 28
abbrev nStd : List Str := ["_law_pot_here", "_law_names", "_law_registry", "_law_due", "_law_name"]
theorem scStd : FnScope nStd ["_law_pot_here", "_law_names"] (defScope sStd) := ⟨rfl, rfl, rfl, by decide +kernel, rfl, by decide +kernel, by decide +kernel⟩
theorem q_par4 {ta tb : TE} {tz : TS} {D : Ends} {σ : L2.St} {H : Hp} {i j : Nat} (h : ta σ H fun v H1 => tb σ H1 fun w H2 => ∃ v' w', [v, w] = [v', w'] ∧ tz D ((σ.set i (some v')).set j (some w')) H2) : tSeq (tPar i j (tCons ta (tCons tb tNil))) tz D σ H := h
theorem s_drawGt {i : Nat} {b : Int} {p : Addr} {tw te : TS} {D : Ends} {σ : L2.St} {H : Hp} (hi : σ[i]? = some (some (.ref p))) (hb : 0 < b) (hl : b.natAbs.log2 < 9000) (pot : Pot H p) (k1 : ∀ H1, Drew p H H1 → tw D σ H1) (k2 : ∀ H1, Drew p H H1 → te D σ H1) :
    tIfS (tTest (tOp (rI0 fun i j => .bl (decide (j < i))) (tCall spDraw [] E0 (tCons (tVar i) (tCons (tC (.int b)) tNil))) (tC (.int 0)))) tw te D σ H :=
  ⟨.ref p, hi, p, b, rfl, hb, hl, pot, fun c H1 _ _ r => ⟨c, 0, rfl, rfl, _, rfl, by
    by_cases e : 0 < c
    · rw [decide_eq_true e]
      exact k1 H1 r
    · rw [decide_eq_false e]
      exact k2 H1 r⟩⟩
def spStd (C CG : Addr) : Sp := fun vs H Q _ => ∃ (p l : Addr) (ns : List Str), vs = [.ref p, .ref l] ∧ Pot H p ∧ H l = some (.lst (ns.map V.str)) ∧ (∀ n ∈ ns, isNameS n = true) ∧ ns.Nodup ∧ 1 ≤ ns.length ∧ ns.length ≤ 40 ∧
  ∀ t x d A R dx H', H' t = some (.tup [.ref x, .ref d]) → Ap44 C CG p x d (wo p H) H' A (srtS ns) R dx → dx.map (·.1) = ns → (∀ r ∈ dx, r.2.2 = []) → (∀ m, exR R m = []) → Qt44 R → Drew p H H' → Q (.ref t) H'
theorem kvX_new {dx : XRows} {n : Str} {b : Addr} {e : Ints} (h : n ∉ dx.map (·.1)) : putK (kvX dx) (.inr n) (.ref b) = kvX (dx ++ [(n, (b, e))]) := by
  have y : putK (kvX dx) (.inr n) (.ref b) = kvX (putA dx n (b, e)) := putK_map (fun r : Addr × Ints => V.ref r.1) dx n (b, e)
  rw [y, putA_new h]
section
variable {P : Program} {w : World} {K : PySem.W.Frag} {mg : Str → Option Value} {base : Heap}
theorem ok_std {f C CG CW fL : Addr} {fd dL : FuncData} {k kl : Nat} (F : Fun K "_law_started" "_law_started" sStd f fd) (B : Blt mg) (T : RgC K mg C) (h2 : Has P w K mg base k "_law_draw" ["_law_pot_here", "_law_bound"] spDraw) (hA : HasM P w K mg base (L2.CX P w) k C "request" ["self", "source", "target"] (spRRq C CG CW))
    (ML : Mk K C fL) (GL : FnOk P w K mg base CX0 kl fL dL ["self", "names"] (spRNew C CG)) (bL : Binds K dL ["self", "names"] []) (hkl : kl + 1 ≤ k) : FnG P w K mg base CX0 (k + 1) f fd ["_law_pot_here", "_law_names"] (spStd C CG) := by
  obtain ⟨f2, d2, G2, b2, k2, g2⟩ := h2.ex
  obtain ⟨fA, dA, GA, bA, mA⟩ := hA.ex
  refine okG F scStd (fun vs H Q E h => by obtain ⟨_, _, _, rfl, _⟩ := h; rfl) (fun cdv A outer s H vs Q E hq hr h => ?_)
  obtain ⟨p, l, ns, rfl, pot, hl, nm, nd, n1, n40, q⟩ := h
  have hu : (A.deeper (envOfC "_law_started" (defScope sStd) s.heap.objs.size f cdv)).units + 1 < cLine := by have := hr.units; omega
  have hrl := hr.mono (j := kl + 1) hkl
  refine ⟨_, pss_cons (ps_par (i := 2) (j := 3) (by rfl) scStd.nd rfl rfl (by decide) rfl rfl (pa_cons (pe_make (E := E0) ML GL hrl (by rfl) T.at_ bL .nil pass0 (pa_cons (pv 1) pa_nil)) (pa_cons pe_dnewK pa_nil)) (by rfl))
    (pss_cons (ps_for PassesOwn.never rfl (pi_list (pv 1)) (pg_name (i := 4) scStd.nd rfl (.inl rfl))
      (pss_cons (ps_dput hu (pv 3) (pv 4) pe_dnewK rfl)
      (pss_one (ps_if (pt_cmpR op_gt (callG (E := E0) G2 hq hr (by rfl) g2 k2 b2 .nil pass0 (pa_cons (pv 0) (pa_cons pe_int pa_nil))) pe_int (nomark _)) (pss_one (ps_expr (pe_meth (E := E0) (pv 2) T.cl mA GA hr bA .nil passL (pa_cons pe_non (pa_cons (pv 4) pa_nil))))) pss_nil))))
    (pss_one (ps_ret (pe_tup (pa_cons (pv 2) (pa_cons (pv 3) pa_nil)))))), ?_⟩
  have lp : l ≠ p := fun z => by
    obtain ⟨i', j', hp, _⟩ := pot
    rw [z, hp] at hl
    cases ns with
    | nil => exact absurd n1 (by decide)
    | cons n0 r => cases hl
  refine q_par4 ?_
  refine ⟨.ref l, rfl, ?_⟩
  intro x dx0 zx zdx nxd
  have xp : x ≠ p := (Drew.refl pot).neq zx
  have eX : ∀ {o1 o2 : HO}, Ex H (upd (upd H dx0 o1) x o2) := fun {o1 o2} b o hb => by rw [upd_ne (ne_of_none hb zx), upd_ne (ne_of_none hb zdx)]; exact hb
  refine ⟨x, dx0, l, ns, wo p H, rfl, upd_same, eX _ _ hl, nm, nd, n1, by omega, (wo_ex p H).trans eX, by rw [wo_ne xp]; exact zx, fun A' R H4 rg nwR frR keep => ⟨rfl, ?_⟩⟩
  have pR : p ∉ ownR A' R := fun z => by
    obtain ⟨i', j', hp, _⟩ := pot
    have y := frR p z
    rw [eX _ _ hp] at y
    cases y
  have pot4 : Pot H4 p := by
    obtain ⟨i', j', hp, r⟩ := pot
    exact ⟨i', j', keep _ _ xp.symm (eX _ _ hp), r⟩
  dsimp only
  refine fun d zd => ⟨_, _, rfl, ?_⟩
  have hdd : (upd H4 d (.dK [])) d = some (.dK []) := upd_same
  have e5 : Ex H4 (upd H4 d (.dK [])) := Ex.new zd
  generalize upd H4 d (.dK []) = H5 at hdd e5 ⊢
  have zdB : wo p H d = none := fresh_back rg.bx zd
  have dnR : d ∉ ownR A' R := fun z => by
    obtain ⟨o, ho, _⟩ := rg.own_some z
    rw [zd] at ho
    cases ho
  have dnp : d ≠ p := fun z => by
    obtain ⟨i', j', hp, _⟩ := pot4
    rw [← z, zd] at hp
    cases hp
  have ap5 : Ap44 C CG p x d (wo p H) H5 A' (srtS ns) R [] := ⟨rg.ex e5, ⟨hdd, (fun r hr => nomatch hr), List.nodup_cons.mpr ⟨(fun z => nomatch z), List.nodup_nil⟩, List.nodup_nil⟩, pot4.ex e5, wo_same, pR, fun z => dnp (List.mem_singleton.mp z).symm, fun a ha => by rw [List.mem_singleton.mp ha]; exact ⟨dnR, zdB⟩⟩
  have qt0 : Qt44 R := ⟨(fun q z => by rw [nwR.ga] at z; cases z), (fun y c z => by unfold chR at z; rw [nwR.ch] at z; cases z)⟩
  have ex0 : ∀ m, exR R m = [] := fun m => by
    unfold exR
    cases hg : getA R.ex m with
    | none => rfl
    | some r => exact nwR.ex _ (getA_mem hg)
  have hlB : wo p H l = some (.lst (ns.map V.str)) := by rw [wo_ne lp]; exact hl
  show tSeq _ _ _ [some (.ref p), some (.ref l), some (.ref x), some (.ref d), none] H5
  refine ⟨.ref l, rfl, l, rfl, ⟨_, sq_of (ap5.rg.bx _ _ hlB)⟩, for_list (xs := ns.map V.str) (fun i σ' H' => ∃ (y4 : Option V) (Ri : Rg) (dx : XRows), σ' = [some (.ref p), some (.ref l), some (.ref x), some (.ref d), y4] ∧ Ap44 C CG p x d (wo p H) H' A' (srtS ns) Ri dx ∧ dx.map (·.1) = ns.take i ∧ (∀ r ∈ dx, r.2.2 = []) ∧ (∀ m, exR Ri m = []) ∧ Qt44 Ri)
    ⟨none, R, [], rfl, ap5, by rw [List.take_zero]; rfl, (fun r hr => nomatch hr), ex0, qt0⟩ (fun i σ' H' _ hP => ?_) (fun i v σ' H' hv hP => ?_) (fun σ' H' hP => ?_)⟩
  · obtain ⟨_, Ri, dx, _, ap, _⟩ := hP
    exact sq_of (ap.rg.bx _ _ hlB)
  · obtain ⟨y4, Ri, dx, rfl, ap, kd, nil, exi, qt⟩ := hP
    have hil : i < ns.length := by
      have := (List.getElem?_eq_some_iff.mp hv).1
      rw [List.length_map] at this
      exact this
    rw [List.getElem?_map, List.getElem?_eq_getElem hil] at hv
    cases hv
    have htk : ns.take (i + 1) = ns.take i ++ [ns[i]] := List.take_succ_eq_append_getElem hil
    have hmem := List.getElem_mem hil
    have hni : ns[i] ∉ dx.map (·.1) := fun z => by
      rw [kd] at z
      have e : ns = ns.take i ++ ns[i] :: ns.drop (i + 1) := by rw [← List.drop_eq_getElem_cons hil]; exact (List.take_append_drop i ns).symm
      have nd2 := nd
      rw [e] at nd2
      exact (List.nodup_append.mp nd2).2.2 _ z _ List.mem_cons_self rfl
    rw [htk]
    generalize ns[i] = n0 at hmem hni
    show tSeq _ _ _ [some (.ref p), some (.ref l), some (.ref x), some (.ref d), some (.str n0)] H'
    have len : dx.length ≤ 40 := by
      have z := congrArg List.length kd
      rw [List.length_map, List.length_take] at z
      omega
    refine fun b zb => ?_
    have eb := Ex.new (o := .dK []) zb
    have dp := DPut.k (k := Sum.inr n0) (v := .ref b) (eb _ _ ap.du.hD) (by
      unfold kvX
      rw [List.length_map, sizeLine_eq]
      omega)
    rw [kvX_new (e := []) hni] at dp
    refine ⟨.ref d, rfl, .str n0, rfl, d, _, rfl, dp, ?_⟩
    obtain ⟨bp, bR, bD⟩ := ap.free zb
    have db : d ≠ b := fun e => bD (by rw [← e]; exact List.mem_cons_self)
    have hI' : ∀ r ∈ dx ++ [(n0, (b, ([] : Ints)))], (upd (upd H' b (.dK [])) d (.dK (kvX (dx ++ [(n0, (b, [])) ])))) r.2.1 = some (.dK (kvInt r.2.2)) := fun r hr => by
      rcases List.mem_append.mp hr with z | z
      · have na : r.2.1 ≠ d := fun e => (List.nodup_cons.mp ap.du.nn).1 (by rw [← e]; exact List.mem_map_of_mem (f := xAd) z)
        rw [upd_ne na]
        exact eb _ _ (ap.du.hI r z)
      · rw [List.mem_singleton.mp z, upd_ne db.symm]
        exact upd_same
    have ap' := ap.due (H' := upd (upd H' b (.dK [])) d (.dK (kvX (dx ++ [(n0, (b, []))])))) (dx' := dx ++ [(n0, (b, []))]) (fun a o na ho => by
      rw [upd_ne (fun e => na (by rw [e]; exact List.mem_cons_self))]
      exact eb _ _ ho) ⟨upd_same, hI', by
        have nn := ap.du.nn
        unfold ownD at nn bD ⊢
        rw [List.map_append, ← List.cons_append]
        refine List.nodup_append.mpr ⟨nn, nodup_one, fun a ha c hc e => ?_⟩
        have hc : c = b := List.mem_singleton.mp hc
        rw [hc] at e
        exact bD (e ▸ ha), by
        rw [List.map_append]
        refine List.nodup_append.mpr ⟨ap.du.kn, nodup_one, fun a ha c hc e => ?_⟩
        have hc : c = n0 := List.mem_singleton.mp hc
        rw [hc] at e
        exact hni (e ▸ ha)⟩ (fun a ha => by
        unfold ownD at ha
        rw [List.map_append, ← List.cons_append] at ha
        rcases List.mem_append.mp ha with z | z
        · exact .inl z
        · exact .inr (by rw [show a = b from List.mem_singleton.mp z]; exact zb))
    generalize upd (upd H' b (.dK [])) d (.dK (kvX (dx ++ [(n0, (b, ([] : Ints)))]))) = H6 at ap' ⊢
    have kd' : (dx ++ [(n0, (b, ([] : Ints)))]).map (·.1) = ns.take i ++ [n0] := by rw [List.map_append, kd]; rfl
    have nil' : ∀ r ∈ dx ++ [(n0, (b, ([] : Ints)))], r.2.2 = [] := fun r hr => by
      rcases List.mem_append.mp hr with z | z
      · exact nil r z
      · rw [List.mem_singleton.mp z]
    generalize dx ++ [(n0, (b, ([] : Ints)))] = dx' at ap' kd' nil'
    dsimp only
    refine s_drawGt (i := 0) rfl (by decide) (by decide +kernel) ap'.pot (fun H7 r7 => ?_) (fun H7 r7 => ⟨_, _, dx', rfl, ap'.drew r7, kd', nil', exi, qt⟩)
    have ap7 := ap'.drew r7
    have hS : n0 ∈ srtS ns := (srtS_perm ns).mem_iff.mpr hmem
    refine ⟨.ref x, rfl, x, A'.dx, _, rfl, ap7.rg.ob, rfl, .str n0, rfl, x, none, n0, wo p H, A', srtS ns, Ri, rfl, ap7.rg, hS, (fun s' e => by cases e), fun _ R5 H8 to5 r5 => ?_, (fun s' e => by cases e)⟩
    exact ⟨_, R5, dx', rfl, ap7.reg to5, kd', nil', (fun m => by unfold exR; rw [r5.ex]; exact exi m), ⟨fun q => by rw [r5.ga]; exact qt.ga q, fun y c z => by unfold chR at z; rw [r5.ch] at z; exact qt.ch y c z⟩⟩
  · obtain ⟨y4, Ri, dx, rfl, ap, kd, nil, exi, qt⟩ := hP
    rw [List.length_map, List.take_length] at kd
    refine ⟨.ref x, rfl, .ref d, rfl, by show 2 ≤ sizeLine; decide, fun t zt => ?_⟩
    have ap' := ap.ex (Ex.new (o := .tup [.ref x, .ref d]) zt)
    exact q t x d A' Ri dx _ upd_same ap' kd nil exi qt ⟨fun b o hb => by
      have bp : b ≠ p := fun e => by rw [e, wo_same] at hb; cases hb
      rw [wo_ne bp]
      exact ap'.rg.bx _ _ hb, ap'.pot⟩
end
end Cr
/-! k44: what stands between two turns -/
namespace Cr
open PySem PySem.Spec PyProof.Rows L2 Evl
structure Sc44 (C CG p x d lb : Addr) (HB H : Hp) (A : RgA) (ns lbs : List Str) (R : Rg) (dx : XRows) : Prop where
  ap : Ap44 C CG p x d HB H A (srtS ns) R dx
  qt : Qt44 R
  kd : dx.map (·.1) = ns
  rel : ∀ m ∈ ns, exR R m = exD dx m
  lab : ∀ r ∈ dx, ∀ q ∈ r.2.2, q.1 ∈ lbs ∧ q.2.natAbs ≤ 10 ^ 30
  xi : ∀ r ∈ dx, (r.2.2.map (·.1)).Nodup
  nm : ∀ n ∈ ns, isNameS n = true
  lnm : ∀ n ∈ lbs, isNameS n = true
  l1 : 1 ≤ lbs.length
  l4 : lbs.length ≤ 4
  n1 : 1 ≤ ns.length
  n8 : ns.length ≤ 8
  hlb : HB lb = some (.lst (lbs.map V.str))
theorem inS4 {ns : List Str} {m : Str} (h : m ∈ ns) : m ∈ srtS ns := (srtS_perm ns).mem_iff.mpr h
/-- a row of the dict -/
theorem due_get {dx : XRows} {ns : List Str} (kd : dx.map (·.1) = ns) {m : Str} (hm : m ∈ ns) : ∃ b e, getA dx m = some (b, e) ∧ (m, (b, e)) ∈ dx ∧ exD dx m = e ∧ valV (kvX dx) (.inr m) = some (.ref b) := by
  obtain ⟨⟨b, e⟩, hg⟩ := getA_some (l := dx) (n := m) (by rw [kd]; exact hm)
  refine ⟨b, e, hg, getA_mem hg, by unfold exD; rw [hg]; rfl, ?_⟩
  unfold kvX
  rw [valV_mapA (fun r : Addr × Ints => V.ref r.1), hg]
  rfl
theorem kvX_putI {dx : XRows} {m : Str} {b : Addr} {e e' : Ints} (kn : (dx.map (·.1)).Nodup) (hg : getA dx m = some (b, e)) : kvX (putA dx m (b, e')) = kvX dx := by
  obtain ⟨q1, q2⟩ := putX_ad (e' := e') kn hg
  have y : ∀ xs : XRows, kvX xs = (xs.map (·.1)).zipWith (fun n b => ((.inr n : Key), V.ref b)) (xs.map xAd) := fun xs => by
    unfold kvX
    induction xs with
    | nil => rfl
    | cons r xs ih => rw [List.map_cons, List.map_cons, List.map_cons, List.zipWith_cons_cons, ih]; rfl
  rw [y, y, q1, q2]
/-- one of the dicts is changed -/
theorem DueAt.setI {H : Hp} {d : Addr} {dx : XRows} {m : Str} {b : Addr} {e e' : Ints} (h : DueAt H d dx) (hg : getA dx m = some (b, e)) : DueAt (upd H b (.dK (kvInt e'))) d (putA dx m (b, e')) ∧ ownD d (putA dx m (b, e')) = ownD d dx ∧ b ∈ ownD d dx := by
  obtain ⟨q1, q2⟩ := putX_ad (e' := e') h.kn hg
  have mem := getA_mem hg
  have bm : b ∈ dx.map xAd := List.mem_map_of_mem (f := xAd) mem
  have nd2 := List.nodup_cons.mp h.nn
  have db : d ≠ b := fun z => nd2.1 (by rw [z]; exact bm)
  have own : ownD d (putA dx m (b, e')) = ownD d dx := by unfold ownD; rw [q1]
  refine ⟨⟨by rw [upd_ne db, kvX_putI h.kn hg]; exact h.hD, fun r hr => ?_, by rw [own]; exact h.nn, by rw [q2]; exact h.kn⟩, own, List.mem_cons_of_mem _ bm⟩
  rcases mem_putA hr with rfl | ⟨hr, ne⟩
  · exact upd_same
  · have na : r.2.1 ≠ b := fun z => ne (by rw [nodup_of_ad nd2.2 hr mem z])
    rw [upd_ne na]
    exact h.hI r hr
theorem exD_put {dx : XRows} {m : Str} {b : Addr} {e' : Ints} (y : Str) : exD (putA dx m (b, e')) y = if y = m then e' else exD dx y := by
  unfold exD
  rw [getA_put]
  by_cases c : y = m
  · rw [if_pos c, if_pos c]; rfl
  · rw [if_neg c, if_neg c]
theorem exR_put4 {R : Rg} {s l : Str} {i : Int} {a : Addr} {e : Ints} (hg : getA R.ex s = some (a, e)) (m : Str) : exR (xpR R s l i a e) m = if m = s then putA (exR R s) l i else exR R m := by
  have es : exR R s = e := by unfold exR; rw [hg]; rfl
  rw [es]
  unfold exR xpR
  rw [getA_put]
  by_cases c : m = s
  · rw [if_pos c, if_pos c]; rfl
  · rw [if_neg c, if_neg c]
section
variable {C CG p x d lb : Addr} {HB H H' : Hp} {A : RgA} {ns lbs : List Str} {R R' : Rg} {dx dx' : XRows}
theorem Sc44.ex (h : Sc44 C CG p x d lb HB H A ns lbs R dx) (e : Ex H H') : Sc44 C CG p x d lb HB H' A ns lbs R dx := ⟨h.ap.ex e, h.qt, h.kd, h.rel, h.lab, h.xi, h.nm, h.lnm, h.l1, h.l4, h.n1, h.n8, h.hlb⟩
theorem Sc44.drew (h : Sc44 C CG p x d lb HB H A ns lbs R dx) (r : Drew p H H') : Sc44 C CG p x d lb HB H' A ns lbs R dx := ⟨h.ap.drew r, h.qt, h.kd, h.rel, h.lab, h.xi, h.nm, h.lnm, h.l1, h.l4, h.n1, h.n8, h.hlb⟩
theorem Sc44.lst (h : Sc44 C CG p x d lb HB H A ns lbs R dx) : H lb = some (.lst (lbs.map V.str)) := h.ap.rg.bx _ _ h.hlb
/-- only the registry's states changed -/
theorem Sc44.reg (h : Sc44 C CG p x d lb HB H A ns lbs R dx) (to : RgTo C CG HB H H' x A (srtS ns) R R') (qt : Qt44 R') (ex : ∀ m, exR R' m = exR R m) : Sc44 C CG p x d lb HB H' A ns lbs R' dx :=
  ⟨h.ap.reg to, qt, h.kd, fun m hm => (ex m).trans (h.rel m hm), h.lab, h.xi, h.nm, h.lnm, h.l1, h.l4, h.n1, h.n8, h.hlb⟩
theorem Sc44.few (h : Sc44 C CG p x d lb HB H A ns lbs R dx) : ∀ r ∈ dx, r.2.2.length ≤ 4 := fun r hr => by
  have z := pigeon (us := lbs) (h.xi r hr) fun y hy => by
    obtain ⟨q, hq, e⟩ := List.mem_map.mp hy
    exact e ▸ (h.lab r hr q hq).1
  rw [List.length_map] at z
  have := h.l4
  omega
theorem Sc44.fewR (h : Sc44 C CG p x d lb HB H A ns lbs R dx) : ∀ r ∈ R.ex, r.2.2.length ≤ 4 := fun r hr => by
  have w := h.ap.rg.wf
  have nx : (R.ex.map (·.1)).Nodup := by rw [w.ex]; exact rise_nodup w.up
  have rU : r.1 ∈ ns := (srtS_perm ns).mem_iff.mp (by rw [← w.ex]; exact List.mem_map_of_mem hr)
  obtain ⟨b, e, hg, mem, he, _⟩ := due_get h.kd rU
  have rl := h.rel r.1 rU
  have er : exR R r.1 = r.2.2 := by
    unfold exR
    obtain ⟨v, hv⟩ := getA_some (l := R.ex) (n := r.1) (List.mem_map_of_mem hr)
    have y := nodup_key nx (getA_mem hv) hr rfl
    rw [hv, ← y]
    rfl
  rw [← er, rl, he]
  exact h.few _ mem
/-- a value is exported, here and there -/
theorem Sc44.put (h : Sc44 C CG p x d lb HB H A ns lbs R dx) {m l : Str} {i : Int} {a b : Addr} {e e0 : Ints} (hm : m ∈ ns) (hl : l ∈ lbs) (hi : i.natAbs ≤ 10 ^ 30) (hg : getA R.ex m = some (a, e)) (hd : getA dx m = some (b, e0))
    (to : RgTo C CG HB H H' x A (srtS ns) R (xpR R m l i a e)) : Sc44 C CG p x d lb HB (upd H' b (.dK (kvInt (putA e0 l i)))) A ns lbs (xpR R m l i a e) (putA dx m (b, putA e0 l i)) := by
  have ap := h.ap.reg to
  obtain ⟨du', own, bm⟩ := ap.du.setI (e' := putA e0 l i) hd
  have mem := getA_mem hd
  have e0' : exD dx m = e0 := by unfold exD; rw [hd]; rfl
  refine ⟨ap.due (fun c o nc ho => by rw [upd_ne (fun z => nc (by rw [z]; exact bm))]; exact ho) du' (fun c hc => .inl (by rw [own] at hc; exact hc)), ⟨h.qt.ga, h.qt.ch⟩, (putX_ad (e' := putA e0 l i) h.ap.du.kn hd).2.trans h.kd, fun y hy => ?_, fun r hr q hq => ?_, fun r hr => ?_, h.nm, h.lnm, h.l1, h.l4, h.n1, h.n8, h.hlb⟩
  · rw [exR_put4 hg y, exD_put]
    by_cases c : y = m
    · rw [if_pos c, if_pos c, h.rel m hm, e0']
    · rw [if_neg c, if_neg c]; exact h.rel y hy
  · rcases mem_putA hr with rfl | ⟨hr, _⟩
    · rcases mem_putA hq with rfl | ⟨hq, _⟩
      · exact ⟨hl, hi⟩
      · exact h.lab _ mem q hq
    · exact h.lab r hr q hq
  · rcases mem_putA hr with rfl | ⟨hr, _⟩
    · exact putA_nodup (h.xi _ mem)
    · exact h.xi r hr
/-- the dict of one module is emptied -/
theorem Sc44.clr {H0 : Hp} (h : Sc44 C CG p x d lb HB H0 A ns lbs R dx) {m : Str} {b : Addr} {e0 : Ints} (hd : getA dx m = some (b, e0)) :
    ∀ {Rx : Rg}, exR Rx m = [] → (∀ y ∈ ns, y ≠ m → exR Rx y = exR R y) → Ap44 C CG p x d HB H A (srtS ns) Rx dx → Qt44 Rx → Sc44 C CG p x d lb HB (upd H b (.dK [])) A ns lbs Rx (putA dx m (b, [])) := by
  intro Rx em eo ap qt
  obtain ⟨du', own, bm⟩ := ap.du.setI (e' := []) hd
  refine ⟨ap.due (fun c o nc ho => by rw [upd_ne (fun z => nc (by rw [z]; exact bm))]; exact ho) du' (fun c hc => .inl (by rw [own] at hc; exact hc)), qt, (putX_ad (e' := []) h.ap.du.kn hd).2.trans h.kd, fun y hy => ?_, fun r hr q hq => ?_, fun r hr => ?_, h.nm, h.lnm, h.l1, h.l4, h.n1, h.n8, h.hlb⟩
  · rw [exD_put]
    by_cases c : y = m
    · rw [if_pos c, c]; exact em
    · rw [if_neg c, eo y hy c]; exact h.rel y hy
  · rcases mem_putA hr with rfl | ⟨hr, _⟩
    · exact nomatch hq
    · exact h.lab r hr q hq
  · rcases mem_putA hr with rfl | ⟨hr, _⟩
    · exact List.nodup_nil
    · exact h.xi r hr
end
/-! ### drawn values -/
def oddN4 : List PyData := [.none, .bool true, .str "1", .list [.int 1], .tuple [], .dict [], .bool false]
def oddL4 : List PyData := [.none, .str "", .str "A", .int 7, .str "abcdefghi", .tuple [.str "a"], .list [.str "a"], .str "a b", .bool true]
def NumS (d : PyData) : Prop := (∃ i : Int, d = .int i ∧ i.natAbs ≤ 10 ^ 30) ∨ d ∈ oddN4
def LabS (lbs : List Str) (d : PyData) : Prop := (∃ z ∈ lbs, d = .str z) ∨ d ∈ oddL4
section
variable {p : Addr} {te tb : TE} {tA : TA} {σ : L2.St} {H0 : Hp} {i : Nat}
/-- a list of values that are all of one kind -/
def EvPs (p : Addr) (tA : TA) (σ : L2.St) (H0 : Hp) (S : PyData → Prop) (n : Nat) : Prop := EvPA p tA σ H0 (fun ds => ds.length = n ∧ ∀ d ∈ ds, S d)
theorem evps_nil {S : PyData → Prop} : EvPs p tNil σ H0 S 0 := fun H r0 Q q => q [] [] H (Drew.refl r0.pot) ⟨rfl, (fun d h => nomatch h)⟩ .nil
theorem evps_cons {S : PyData → Prop} {n : Nat} (h1 : EvP p te σ H0 S) (h2 : EvPs p tA σ H0 S n) : EvPs p (tCons te tA) σ H0 S (n + 1) := fun H r0 Q q =>
  evpa_cons h1 h2 H r0 Q fun vs ds H2 r ⟨d, es, e, s, l, m⟩ hd => q vs ds H2 r (by
    subst e
    exact ⟨by rw [List.length_cons, l], fun y hy => (List.mem_cons.mp hy).elim (fun z => z ▸ s) (m y)⟩) hd
theorem evp_I {f : Int → Int → Int} {j : Int} {S : Int → Prop} (h1 : EvP p te σ H0 (fun d => ∃ k : Int, d = .int k ∧ S k)) (h2 : ∀ H, Ev tb σ H (.int j)) : EvP p (tOp (rI0 fun a b => .int (f a b)) te tb) σ H0 (fun d => ∃ k : Int, d = .int (f k j) ∧ S k) := fun H r0 Q q =>
  h1 H r0 _ fun v d H2 r ⟨k, e, s⟩ hd => by
    subst e
    have ev : v = .int k := by cases hd; rfl
    subst ev
    exact h2 H2 H2 (Ex.refl H2) _ fun H3 e3 => ⟨k, j, rfl, rfl, q _ _ H3 (r.trans (Drew.of r.pot e3)) ⟨k, rfl, s⟩ (.int _)⟩
end
end Cr
/-! k44: _law_export_right -/
namespace Cr
open PySem PySem.Spec PyProof.Rows L2 Evl
abbrev sEr4 : Stmt := topS 31
abbrev nEr4 : List Str := ["_law_pot_here", "_law_registry", "_law_due", "_law_labels", "_law_module", "_law_number", "_law_label", "_law_expected", "_law_state"]
theorem scEr4 : FnScope nEr4 ["_law_pot_here", "_law_registry", "_law_due", "_law_labels"] (defScope sEr4) := ⟨rfl, rfl, rfl, by decide +kernel, rfl, by decide +kernel, by decide +kernel⟩
theorem q_exp4 {t : TT} {te : TE} {tz : TS} {D : Ends} {σ : L2.St} {H : Hp} {b : Bool} {v : V} {d0 d1 : PyData} {i : Nat} (ht : EvT t σ H b) (he : b = true → ∀ H1, Ex H H1 → EvD te σ H1 d1) (hs : σ.set i (some v) = σ) (hv : Dt H v d0) (k : ∀ v' H', Ex H H' → Dt H' v' (if b = true then d1 else d0) → tz D (σ.set i (some v')) H') :
    tSeq (tIfS t (tAsg te (gName i)) tNext) tz D σ H := by
  refine ht H (Ex.refl H) _ fun H1 e1 => ?_
  cases b with
  | true =>
    show (tAsg te (gName i)) { D with nx := tz D } σ H1
    exact he rfl H1 e1 H1 (Ex.refl H1) _ fun v' H2 e2 hv' => k v' H2 (e1.trans e2) (by rw [if_pos rfl]; exact hv')
  | false =>
    show tz D σ H1
    have z := k v H1 e1 (by rw [if_neg (by decide)]; exact Dt.ex e1 hv)
    rw [hs] at z
    exact z
theorem oddN4_ok {d : PyData} (h : d ∈ oddN4) : sm d = true ∧ isInteger d = false := by
  simp only [oddN4, List.mem_cons, List.not_mem_nil, or_false] at h
  rcases h with rfl | rfl | rfl | rfl | rfl | rfl | rfl <;> exact ⟨by decide +kernel, by decide +kernel⟩
theorem fits4 {d : PyData} (h1 : d.showable = true) (h2 : d.depth ≤ 50) (h3 : d.shown.length ≤ 1000) : Fits d := ⟨h1, h2, by rw [sizeLine_eq]; omega⟩
theorem oddL4_ok {d : PyData} (h : d ∈ oddL4) : sm d = true ∧ cpyTo 3 d ∧ Fits d ∧ isName d = false ∧ SeqAt.shaped (noNameD d) = true := by
  simp only [oddL4, List.mem_cons, List.not_mem_nil, or_false] at h
  rcases h with rfl | rfl | rfl | rfl | rfl | rfl | rfl | rfl | rfl <;> exact ⟨by decide +kernel, ⟨by decide +kernel, by decide +kernel⟩, fits4 (by decide +kernel) (by decide +kernel) (by decide +kernel), by decide +kernel, by decide +kernel⟩
theorem txOk_of {x : Str} (h : (decide (∀ c ∈ x.cps.toList, c < 128) && decide (x.length ≤ 1000)) = true) : txOk (.str x) := by
  rw [Bool.and_eq_true, decide_eq_true_eq, decide_eq_true_eq] at h
  exact h
theorem oddL4_tx {d : PyData} (h : d ∈ oddL4) : txOk d := by
  simp only [oddL4, List.mem_cons, List.not_mem_nil, or_false] at h
  rcases h with rfl | rfl | rfl | rfl | rfl | rfl | rfl | rfl | rfl <;> first | exact trivial | exact txOk_of (by decide +kernel)
theorem name_okT4 {x : Str} (h : isNameS x = true) : txOk (.str x) := by
  unfold isNameS at h
  simp only [Bool.and_eq_true, decide_eq_true_eq] at h
  refine ⟨fun c hc => ?_, by have := h.1.2; omega⟩
  have z := List.all_eq_true.mp h.2 c hc
  unfold isLow at z
  simp only [Bool.and_eq_true, decide_eq_true_eq] at z
  omega
theorem name_sz4 {x : Str} (h : isNameS x = true) : Sz 8 0 (.str x) := sz_str (low_free h).1 fun c hc => by have := (name_okT4 h).1 c hc; omega
theorem name_fits4 {x : Str} (h : isNameS x = true) : Fits (.str x) := (name_sz4 h).fits (by decide) (by decide)
theorem numS_sm {d : PyData} (h : NumS d) : sm d = true := by
  rcases h with ⟨i, rfl, _⟩ | h
  · rfl
  · exact (oddN4_ok h).1
theorem labS_ok {lbs : List Str} (hl : ∀ n ∈ lbs, isNameS n = true) {d : PyData} (h : LabS lbs d) : sm d = true ∧ cpyTo 3 d ∧ Fits d ∧ txOk d := by
  rcases h with ⟨z, hz, rfl⟩ | h
  · have nz := hl z hz
    exact ⟨sm_name nz, ⟨rfl, by show 0 < 3; decide⟩, name_fits4 nz, name_okT4 nz⟩
  · obtain ⟨a, b, c, _, _⟩ := oddL4_ok h
    exact ⟨a, b, c, oddL4_tx h⟩
theorem wrong_shaped {m s : Str} (hm : isNameS m = true) (hs : s ∈ states5) : SeqAt.shaped (.list [.str m, .str s, .bool true]) = true := by
  have ok : PyData.strOk s = true := by
    have : (states5.all fun x => PyData.strOk x) = true := by decide +kernel
    exact List.all_eq_true.mp this s hs
  unfold SeqAt.shaped
  rw [PyData.canLay0, PyData.canLayAll0, PyData.canLayAll0, PyData.canLayAll0, PyData.canLayAll0, PyData.canLay0, PyData.canLay0, PyData.canLay0, nm_sok hm, ok]
  rfl
def spEr4 (C CG : Addr) : Sp := fun vs H Q _ => ∃ p x d lb HB A ns lbs R dx, vs = [.ref p, .ref x, .ref d, .ref lb] ∧ Sc44 C CG p x d lb HB H A ns lbs R dx ∧ lb ≠ p ∧ ∀ R' dx' H', Sc44 C CG p x d lb HB H' A ns lbs R' dx' → Q (.bl true) H'
section
variable {P : Program} {w : World} {K : PySem.W.Frag} {mg : Str → Option Value} {base : Heap}
theorem ok_er4 {f C CG : Addr} {fd : FuncData} {k : Nat} (F : Fun K "_law_export_right" "_law_export_right" sEr4 f fd) (B : Blt mg) (T : RgC K mg C) (h1 : Has P w K mg base k "_law_choice" ["_law_pot_here", "_law_options"] spChoice) (h2 : Has P w K mg base k "_law_draw" ["_law_pot_here", "_law_bound"] spDraw)
    (h3 : HasO P w K mg base k "_law_is_label" ["_law_thing"] spIsLb) (h4 : Has P w K mg base k "_law_told" ["_law_registry", "_law_module", "_law_label", "_law_number"] (spTo4 C CG)) (h5 : HasM P w K mg base CX0 k C "state_of" ["self", "module"] (spRSo C CG)) : FnG P w K mg base CX0 (k + 1) f fd ["_law_pot_here", "_law_registry", "_law_due", "_law_labels"] (spEr4 C CG) := by
  obtain ⟨f1, d1, G1, b1, k1, g1⟩ := h1.ex
  obtain ⟨f2, d2, G2, b2, k2, g2⟩ := h2.ex
  obtain ⟨f3, d3, G3, b3, k3, g3⟩ := h3.ex
  obtain ⟨f4, d4, G4, b4, k4, g4⟩ := h4.ex
  obtain ⟨f5, d5, G5, b5, m5⟩ := h5.ex
  refine okG F scEr4 (fun vs H Q E h => by obtain ⟨_, _, _, _, _, _, _, _, _, _, rfl, _⟩ := h; rfl) (fun cdv A outer s H vs Q E hq hr h => ?_)
  obtain ⟨p, x, d, lb, HB, A', ns, lbs, R, dx, rfl, sc, lbp, q⟩ := h
  have hu : (A.deeper (envOfC "_law_export_right" (defScope sEr4) s.heap.objs.size f cdv)).units + 1 < cLine := by have := hr.units; omega
  refine ⟨_, pss_cons (ps_par (i := 4) (j := 5) (by rfl) scEr4.nd rfl rfl (by decide) rfl rfl (pa_cons (callG (E := E0) G1 hq hr (by rfl) g1 k1 b1 .nil pass0 (pa_cons (pv 0) (pa_cons (pe_callTy (call_listD rfl) (by rfl) B.list bList (pa_cons (pv 2) pa_nil)) pa_nil)))
      (pa_cons (pe_op op_add (pe_op op_sub (callG (E := E0) G2 hq hr (by rfl) g2 k2 b2 .nil pass0 (pa_cons (pv 0) (pa_cons (pe_op op_sub (pe_op op_mul pe_int (pe_op op_pow pe_int pe_int)) pe_int) pa_nil))) (pe_op op_pow pe_int pe_int)) pe_int) pa_nil)) (by rfl))
    (pss_cons (ps_set (i := 6) scEr4.nd rfl (.inl rfl) (callG (E := E0) G1 hq hr (by rfl) g1 k1 b1 .nil pass0 (pa_cons (pv 0) (pa_cons (pe_op op_cat (pe_op op_cat (pv 3) (pv 3)) (pe_lst (pa_cons pe_non (pa_cons pe_str (pa_cons pe_str (pa_cons pe_int (pa_cons pe_str (pa_cons (pe_tup (pa_cons pe_str pa_nil)) (pa_cons (pe_lst (pa_cons pe_str pa_nil)) (pa_cons pe_str (pa_cons pe_bl pa_nil))))))))))) pa_nil))))
    (pss_cons (ps_set (i := 5) scEr4.nd rfl (.inl rfl) (callG (E := E0) G1 hq hr (by rfl) g1 k1 b1 .nil pass0 (pa_cons (pv 0) (pa_cons (pe_lst (pa_cons (pv 5) (pa_cons (pv 5) (pa_cons (pe_op op_sub (callG (E := E0) G2 hq hr (by rfl) g2 k2 b2 .nil pass0 (pa_cons (pv 0) (pa_cons pe_int pa_nil))) pe_int) (pa_cons pe_int (pa_cons pe_non (pa_cons pe_bl (pa_cons pe_str (pa_cons (pe_lst (pa_cons pe_int pa_nil)) (pa_cons (pe_tup pa_nil) (pa_cons pe_dnewK (pa_cons pe_bl pa_nil)))))))))))) pa_nil))))
    (pss_cons (ps_par (i := 7) (j := 8) (by rfl) scEr4.nd rfl rfl (by decide) rfl rfl (pa_cons pe_str (pa_cons (pe_meth (E := E0) (pv 1) T.cl m5 G5 hr b5 .nil pass0 (pa_cons (pv 4) pa_nil)) pa_nil)) (by rfl))
    (pss_cons (ps_if (PW.pt (pw_or (pt_val (pe_callB call_isi (by rfl) B.isi bIsi (pa_cons (pv 5) (pa_cons (pe_bltn (v := .ty "bool") (by rfl) B.bool bBool rfl) pa_nil)))) (pw_or1 (pt_not (pt_val (pe_callB call_isi (by rfl) B.isi bIsi (pa_cons (pv 5) (pa_cons (pe_bltn (v := .ty "int") (by rfl) B.int bInt rfl) pa_nil)))))))) (pss_one (ps_set (i := 7) scEr4.nd rfl (.inl rfl) (pe_lst (pa_cons pe_str (pa_cons pe_bl (pa_cons pe_bl pa_nil)))))) pss_nil)
    (pss_cons (ps_if (pt_not (pt_val (pe_call (E := E0) G3 hr (by rfl) g3 k3 b3 .nil pass0 (pa_cons (pv 6) pa_nil)))) (pss_one (ps_set (i := 7) scEr4.nd rfl (.inl rfl) (pe_lst (pa_cons pe_str (pa_cons (pe_callB (call_reprG hq hr.units) (by rfl) B.repr bRepr (pa_cons (pv 6) pa_nil)) (pa_cons pe_bl (pa_cons pe_bl pa_nil))))))) pss_nil)
    (pss_cons (ps_if (pt_cmpR op_ne (pv 8) pe_str (nomark _)) (pss_one (ps_set (i := 7) scEr4.nd rfl (.inl rfl) (pe_lst (pa_cons (pv 4) (pa_cons (pv 8) (pa_cons pe_bl pa_nil)))))) pss_nil)
    (pss_cons (ps_if (pt_cmpR (op_neDt hr.units) (callG (E := E0) G4 hq hr (by rfl) g4 k4 b4 .nil pass0 (pa_cons (pv 1) (pa_cons (pv 4) (pa_cons (pv 6) (pa_cons (pv 5) pa_nil))))) (pv 7) (nomark _)) (pss_one (ps_ret pe_bl)) pss_nil)
    (pss_cons (ps_if (pt_cmpR (op_eqDt hr.units) (pv 7) pe_str (nomark _)) (pss_one (ps_dput hu (pe_dget hu (pv 2) (pv 4) (fun _ _ => rfl)) (pv 6) (pv 5) rfl)) pss_nil)
    (pss_one (ps_ret pe_bl)))))))))), ?_⟩
  have l8 := sc.n8
  have lkd : dx.length = ns.length := by rw [← sc.kd, List.length_map]
  have p0 : ∀ {σ : L2.St}, (L2.start nEr4 [.ref p, .ref x, .ref d, .ref lb])[0]? = some (some (.ref p)) := fun {σ} => rfl
  -- the module and the number
  refine q_parP (S := fun e => ∃ ds : List PyData, (ds.length = ns.length ∧ ∀ y ∈ ds, ∃ m ∈ ns, y = .str m) ∧ e ∈ ds) (T := fun e => ∃ i : Int, e = .int i ∧ i.natAbs ≤ 10 ^ 30)
    (evp_choice (i := 0) rfl (SA := fun ds => ds.length = ns.length ∧ ∀ y ∈ ds, ∃ m ∈ ns, y = .str m) (fun H1 r1 Q' q' => ?_) (fun ds h => by have := sc.n1; omega))
    (evp_mono (evp_I (f := fun a b => a + b) (j := 1) (S := fun j => ∃ j0 : Int, j = j0 - 10 ^ 30 ∧ 0 ≤ j0 ∧ j0 < 2 * 10 ^ 30 - 1) (evp_mono (evp_I (f := fun a b => a - b) (j := 10 ^ 30) (S := fun j => 0 ≤ j ∧ j < 2 * 10 ^ 30 - 1) (evp_draw (i := 0) (b := 2 * 10 ^ 30 - 1) rfl (fun H1 => ?_) (by decide) (by decide +kernel)) (fun H1 => ?_)) fun e ⟨k0, e1, h0⟩ => ⟨_, e1, k0, rfl, h0⟩) (fun H1 => ev_c)) fun e ⟨k0, e1, j0, e2, h0, h2⟩ => ⟨_, e1, by subst e2; show (j0 - 10 ^ 30 + 1).natAbs ≤ 10 ^ 30; omega⟩) sc.ap.pot fun v u dm dn H1 r1 sm1 sn1 hv hu1 => ?_
  · have sc1 := sc.drew r1
    refine ⟨.ref d, rfl, d, kvX dx, rfl, .inl sc1.ap.du.hD, fun a za => ?_⟩
    obtain ⟨r2, n2, w2⟩ := (Drew.refl r1.pot).put (o := .lst ((kvX dx).map fun kv => kV kv.1)) za
    have ek : (kvX dx).map (fun kv => kV kv.1) = ns.map V.str := by rw [← sc.kd]; unfold kvX; rw [List.map_map, List.map_map]; rfl
    rw [ek] at w2 r2 ⊢
    exact q' _ (.list (ns.map PyData.str)) _ r2 ⟨_, rfl, by rw [List.length_map], fun y hy => by obtain ⟨m, hm, rfl⟩ := List.mem_map.mp hy; exact ⟨m, hm, rfl⟩⟩ (.lst w2 (dts_map _ PyData.str (fun x => .str x) ns))
  · intro H2 e2 Q' q'
    exact ⟨10, 30, rfl, rfl, ⟨by decide, by decide, by decide⟩, 2, _, rfl, rfl, .inl ⟨by decide, by decide⟩, _, 1, rfl, rfl, q' H2 (Ex.refl H2)⟩
  · intro H2 e2 Q' q'
    exact ⟨10, 30, rfl, rfl, ⟨by decide, by decide, by decide⟩, q' H2 (Ex.refl H2)⟩
  obtain ⟨m, hm, rfl⟩ : ∃ m ∈ ns, dm = .str m := by obtain ⟨ds, h, hd⟩ := sm1; exact h.2 _ hd
  obtain ⟨i0, rfl, hi0⟩ := sn1
  have ev : v = .str m := by cases hv; rfl
  have eu : u = .int i0 := by cases hu1; rfl
  subst ev
  subst eu
  have sc1 := sc.drew r1
  have hlb1 : Dt (wo p H1) (.ref lb) (.list (lbs.map PyData.str)) := .lst (xs := lbs.map V.str) (by rw [wo_ne lbp]; exact sc1.lst) (dts_map _ PyData.str (fun x => .str x) lbs)
  -- the label
  refine q_asgP (S := LabS lbs) (evp_mono (evp_choice (i := 0) rfl (SA := fun ds => ds.length = lbs.length + lbs.length + 9 ∧ ∀ y ∈ ds, LabS lbs y)
    (evp_mono (evp_cat (S1 := fun ds => ds = lbs.map PyData.str ++ lbs.map PyData.str) (S2 := fun ds => ds = oddL4) (evp_mono (evp_cat (S1 := fun ds => ds = lbs.map PyData.str) (S2 := fun ds => ds = lbs.map PyData.str) (evp_mono (evp_var (i := 3) rfl hlb1) fun e he => ⟨_, he, rfl⟩) (evp_mono (evp_var (i := 3) rfl hlb1) fun e he => ⟨_, he, rfl⟩) fun ds es h1 h2 => by
        subst h1 h2
        rw [List.length_map]
        have := sc.l4
        omega) fun e ⟨ds, es, he, h1, h2⟩ => ⟨_, he, by rw [h1, h2]⟩)
      (evp_mono (evp_lstL (ds := oddL4) (evpl_cons evp_non (evpl_cons evp_str (evpl_cons evp_str (evpl_cons evp_int (evpl_cons evp_str (evpl_cons (evp_tupL (evpl_cons evp_str evpl_nil) (by show 1 ≤ 1000; decide)) (evpl_cons (evp_lstL (evpl_cons evp_str evpl_nil) (by show 1 ≤ 1000; decide)) (evpl_cons evp_str (evpl_cons evp_bl evpl_nil))))))))) (by show 9 ≤ 1000; decide)) fun e he => ⟨_, he, rfl⟩) fun ds es h1 h2 => by
        subst h1 h2
        rw [List.length_append, List.length_map]
        have := sc.l4
        show lbs.length + lbs.length + 9 ≤ 1000
        omega) fun e ⟨ds, es, he, h1, h2⟩ => ⟨_, he, by
          subst h1 h2
          refine ⟨by rw [List.length_append, List.length_append, List.length_map]; rfl, fun y hy => ?_⟩
          have inl : y ∈ lbs.map PyData.str → LabS lbs y := fun hz => by
            obtain ⟨z, hz', rfl⟩ := List.mem_map.mp hz
            exact .inl ⟨z, hz', rfl⟩
          rcases List.mem_append.mp hy with hz | hz
          · exact (List.mem_append.mp hz).elim inl inl
          · exact .inr hz⟩)
    (fun ds h => by have := sc.l4; omega)) fun e ⟨ds, h, hd⟩ => h.2 e hd) sc1.ap.pot fun lv ld H2 r2 sl hl2 => ?_
  have sc2 := sc1.drew r2
  -- the number
  have nI : ∀ {j : Int}, j.natAbs ≤ 10 ^ 30 → NumS (.int j) := fun {j} h => .inl ⟨j, rfl, h⟩
  have nO : ∀ {e : PyData}, e ∈ oddN4 → NumS e := fun h => .inr h
  refine q_asgP (S := NumS) (evp_mono (evp_choice (i := 0) rfl (SA := fun ds => ds.length = 11 ∧ ∀ y ∈ ds, NumS y) (evp_lst (SA := fun ds => ds.length = 11 ∧ ∀ y ∈ ds, NumS y)
    (evps_cons (evp_mono (evp_var (i := 5) rfl (.int i0)) fun e he => he ▸ nI hi0) (evps_cons (evp_mono (evp_var (i := 5) rfl (.int i0)) fun e he => he ▸ nI hi0)
    (evps_cons (evp_mono (evp_I (f := fun a b => a - b) (j := 1) (S := fun j => 0 ≤ j ∧ j < 3) (evp_draw (i := 0) (b := 3) rfl (fun H3 => ev_c) (by decide) (by decide +kernel)) (fun H3 => ev_c)) fun e ⟨k0, e1, h0⟩ => by subst e1; exact nI (by omega))
    (evps_cons (evp_mono evp_int fun e he => he ▸ nI (by decide)) (evps_cons (evp_mono evp_non fun e he => nO (by rw [he]; simp [oddN4])) (evps_cons (evp_mono evp_bl fun e he => nO (by rw [he]; simp [oddN4])) (evps_cons (evp_mono evp_str fun e he => nO (by rw [he]; simp [oddN4]))
    (evps_cons (evp_mono (evp_lstL (evpl_cons evp_int evpl_nil) (by show 1 ≤ 1000; decide)) fun e he => nO (by rw [he]; simp [oddN4])) (evps_cons (evp_mono (evp_tupL evpl_nil (by show 0 ≤ 1000; decide)) fun e he => nO (by rw [he]; simp [oddN4])) (evps_cons (evp_mono evp_dnew fun e he => nO (by rw [he]; simp [oddN4])) (evps_cons (evp_mono evp_bl fun e he => nO (by rw [he]; simp [oddN4])) evps_nil)))))))))))
    (fun ds h => by rw [h.1]; decide)) (fun ds h => by rw [h.1]; decide)) fun e ⟨ds, h, hd⟩ => h.2 e hd) sc2.ap.pot fun nv nd H3 r3 sn hn3 => ?_
  have sc3 := sc2.drew r3
  have hl3 := dt_wo (r3.dt hl2)
  have hn3 := dt_wo hn3
  obtain ⟨lsm, lcp, lfit, ltx⟩ := labS_ok sc.lnm sl
  have nsm := numS_sm sn
  have mS := inS4 hm
  have w := sc3.ap.rg.wf
  have stI := st_in w mS
  have nmm := sc.nm m hm
  refine q_par4 ⟨.ref x, rfl, x, A'.dx, _, rfl, sc3.ap.rg.ob, rfl, .str m, rfl, x, m, HB, A', srtS ns, R, rfl, sc3.ap.rg, mS, fun H4 e4 => ⟨_, _, rfl, ?_⟩⟩
  show tSeq _ _ _ [some (.ref p), some (.ref x), some (.ref d), some (.ref lb), some (.str m), some nv, some lv, some (.str "done"), some (.str (stM R m))] H4
  have sc4 := sc3.ex e4
  have hl4 := Dt.ex e4 hl3
  have hn4 := Dt.ex e4 hn3
  -- what is due
  refine q_exp4 (b := !isInteger nd) (v := .str "done") (d0 := .str "done") (d1 := noNumD) (et_is (et_or (et_B (ev_cb (ea_cons (ev_var (i := 5) rfl) (ea_cons ev_c ea_nil)) (rc_isi hn4 (T := "bool") (by simp)))) fun _ => et_not (et_B (ev_cb (ea_cons (ev_var (i := 5) rfl) (ea_cons ev_c ea_nil)) (rc_isi hn4 (T := "int") (by simp))))) (by
      unfold isInteger
      cases isT "bool" nd <;> cases isT "int" nd <;> rfl)) (fun _ H5 e5 => evd_lst (evda_cons evd_str (evda_cons (evd_of ev_c (.bl _)) (evda_cons (evd_of ev_c (.bl _)) evda_nil))) (by show 3 ≤ 1000; decide)) rfl (.str _) fun v1 H5 e5 hv1 => ?_
  have hl5 := Dt.ex e5 hl4
  show tSeq _ _ _ [some (.ref p), some (.ref x), some (.ref d), some (.ref lb), some (.str m), some nv, some lv, some v1, some (.str (stM R m))] H5
  refine q_exp4 (b := !isName ld) (v := v1) (d1 := noNameD ld) (et_not (et_B (ev_call (sp := spIsLb) (dvs := []) (E := E0) (ea_cons (ev_var (i := 6) rfl) ea_nil) (fun H6 e6 Q' q' E' => ⟨lv, ld, rfl, Dt.ex e6 hl5, ltx, q'⟩)))) (fun _ H6 e6 => evd_lst (evda_cons evd_str (evda_cons (evd_of (ev_reprD (evd_var (i := 6) rfl (Dt.ex e6 hl5)) lfit) (.str _)) (evda_cons (evd_of ev_c (.bl _)) (evda_cons (evd_of ev_c (.bl _)) evda_nil)))) (by show 4 ≤ 1000; decide)) rfl hv1 fun v2 H6 e6 hv2 => ?_
  show tSeq _ _ _ [some (.ref p), some (.ref x), some (.ref d), some (.ref lb), some (.str m), some nv, some lv, some v2, some (.str (stM R m))] H6
  refine q_exp4 (b := !decide (stM R m = "running")) (v := v2) (d1 := wrongD R m) (et_is (et_test (ev_op (ev_var (i := 8) rfl) ev_c (rv_ne rfl))) (by
      congr 1
      exact decide_eq_decide.mpr ⟨fun e => V.str.inj e, fun e => by rw [e]⟩)) (fun _ H7 e7 => evd_lst (evda_cons (evd_var (i := 4) rfl (.str m)) (evda_cons (evd_var (i := 8) rfl (.str _)) (evda_cons (evd_of ev_c (.bl _)) evda_nil))) (by show 3 ≤ 1000; decide)) rfl hv2 fun v3 H7 e7 hv3 => ?_
  show tSeq _ _ _ [some (.ref p), some (.ref x), some (.ref d), some (.ref lb), some (.str m), some nv, some lv, some v3, some (.str (stM R m))] H7
  have e47 := (e5.trans e6).trans e7
  have sc7 := sc4.ex e47
  have hl7 := Dt.ex e47 hl4
  have hn7 := Dt.ex e47 hn4
  have fewR : ∀ r ∈ R.ex, r.2.2.length ≤ 1000 := fun r hr => by have := sc.fewR r hr; omega
  -- told, and compared
  have same : ∀ {de : PyData} {v : V} {H8 : Hp} {D : Ends} {tz : TS}, SeqAt.shaped de = true → Dt H8 v de → Dt H8 v3 de → tz D [some (.ref p), some (.ref x), some (.ref d), some (.ref lb), some (.str m), some nv, some lv, some v3, some (.str (stM R m))] H8 →
      (tVar 7) [some (.ref p), some (.ref x), some (.ref d), some (.ref lb), some (.str m), some nv, some lv, some v3, some (.str (stM R m))] H8 fun y H9 => rNeDt v y H9 fun z H10 => ∃ c, z = .bl c ∧ if c = true then (tRet (tC (.bl false))) { D with nx := tz D } [some (.ref p), some (.ref x), some (.ref d), some (.ref lb), some (.str m), some nv, some lv, some v3, some (.str (stM R m))] H10 else tz D [some (.ref p), some (.ref x), some (.ref d), some (.ref lb), some (.str m), some nv, some lv, some v3, some (.str (stM R m))] H10 := fun {de v H8 D tz} sh h1 h2 k => by
    refine ⟨v3, rfl, de, de, h1, h2, sh, sh, _, rfl, ?_⟩
    rw [SeqAt.eqv_refl _ (SeqAt.canLay_of_shaped sh)]
    exact k
  have shW : SeqAt.shaped (wrongD R m) = true := wrong_shaped nmm stI
  have shN : SeqAt.shaped noNumD = true := by decide +kernel
  have shD : SeqAt.shaped (.str "done") = true := by decide +kernel
  -- nothing more for a list
  have stop : ∀ {de : PyData} {H8 : Hp}, SeqAt.shaped de = true → PyData.eqv de (.str "done") = false → Dt H8 v3 de → Ex H7 H8 →
      tSeq (tIfS (tTest (tOp rEqDt (tVar 7) (tC (.str "done")))) (sDPut (tDGet (tVar 2) (tVar 4)) (tVar 6) (tVar 5)) tNext) (tRet (tC (.bl true))) { nx := fun _ H' => Q .non H', rt := Q } [some (.ref p), some (.ref x), some (.ref d), some (.ref lb), some (.str m), some nv, some lv, some v3, some (.str (stM R m))] H8 := fun {de H8} sh ne hd8 e8 => by
    refine q_when (b := false) (et_is (et_eqD (evd_var (i := 7) rfl hd8) evd_str sh shD) ne) (fun z => nomatch z) (fun _ H9 e9 => ?_)
    exact s_ret (v := .bl true) ev_c fun H10 e10 => q R dx H10 (sc7.ex ((e8.trans e9).trans e10))
  refine ⟨.ref x, rfl, .str m, rfl, lv, rfl, nv, rfl, x, m, lv, nv, ld, nd, HB, A', srtS ns, R, rfl, sc7.ap.rg, mS, hl7, lsm, lcp, lfit, hn7, nsm, fewR, fun run l i el hnm en a e H8 hg to => ?_, fun ne v H8 e8 hv8 => ?_, fun run no v H8 e8 hv8 => ?_, fun run ok no v H8 e8 hv8 => ?_⟩
  · have ev3 : v3 = .str "done" := by
      rw [run, decide_eq_true rfl, if_neg (by decide)] at hv3
      rw [el] at hv3
      rw [show isName (.str l) = true from hnm, if_neg (by decide), en] at hv3
      have hv3 : Dt H7 v3 (.str "done") := hv3
      cases hv3
      rfl
    have evl : lv = .str l := by rw [el] at hl7; cases hl7; rfl
    have evn : nv = .int i := by rw [en] at hn7; cases hn7; rfl
    have hlm : l ∈ lbs := by
      rcases sl with ⟨z, hz, e0⟩ | h
      · rw [el] at e0
        rw [show l = z from PyData.str.inj e0]
        exact hz
      · have z := (oddL4_ok h).2.2.2.1
        rw [el, show isName (.str l) = isNameS l from rfl, hnm] at z
        cases z
    have hii : i.natAbs ≤ 10 ^ 30 := by
      rcases sn with ⟨z, e0, hz⟩ | h
      · rw [en] at e0
        rw [show i = z from PyData.int.inj e0]
        exact hz
      · have z := (oddN4_ok h).2
        rw [en] at z
        cases z
    refine same (D := { nx := fun _ H' => Q .non H', rt := Q }) shD (.str _) (by rw [ev3]; exact .str _) ?_
    rw [ev3, evl, evn]
    show tSeq (tIfS (tTest (tOp rEqDt (tVar 7) (tC (.str "done")))) (sDPut (tDGet (tVar 2) (tVar 4)) (tVar 6) (tVar 5)) tNext) (tRet (tC (.bl true))) { nx := fun _ H' => Q .non H', rt := Q } _ H8
    refine q_when (b := true) (et_is (et_eqD (evd_var (i := 7) rfl (.str "done")) evd_str shD shD) (by decide +kernel)) (fun _ H9 e9 => ?_) (fun z => nomatch z)
    obtain ⟨b, e0, hd0, mem0, he0, hv0⟩ := due_get sc.kd hm
    have to9 := RgTo.ex to e9
    have sc9 := sc7.ap.reg to9
    refine ⟨.int i, rfl, ?_⟩
    refine ev_dgRd (x := m) (v := .ref b) (ev_var (i := 2) rfl) (ev_var (i := 4) rfl) (.inl sc9.du.hD) hv0 H9 (Ex.refl H9) _ fun H10 e10 => ?_
    have to10 := RgTo.ex to9 e10
    have sc10 := sc9.ex e10
    have dp := DPut.k (k := Sum.inr l) (v := .int i) (sc10.du.hI _ mem0) (by
      unfold kvInt
      rw [List.length_map, sizeLine_eq]
      have := sc.few _ mem0
      show e0.length < _
      have : e0.length ≤ 4 := this
      omega)
    have pe : putK (kvInt e0) (.inr l) (.int i) = kvInt (putA e0 l i) := putK_map V.int e0 l i
    rw [pe] at dp
    refine ⟨.str l, rfl, b, _, rfl, dp, ?_⟩
    have fin := sc7.put hm hlm hii hg hd0 to10
    dsimp only
    exact s_ret (v := .bl true) ev_c fun H11 e11 => q _ _ H11 (fin.ex e11)
  · rw [decide_eq_false ne] at hv3
    have hv3 : Dt H7 v3 (wrongD R m) := hv3
    exact same shW hv8 (Dt.ex e8 hv3) (stop shW rfl (Dt.ex e8 hv3) e8)
  · rw [run, decide_eq_true rfl, if_neg (by decide), no] at hv3
    have hv3 : Dt H7 v3 (noNameD ld) := hv3
    have sh : SeqAt.shaped (noNameD ld) = true := by
      rcases sl with ⟨z, hz, e0⟩ | h
      · rw [e0, show isName (.str z) = isNameS z from rfl, sc.lnm z hz] at no
        cases no
      · exact (oddL4_ok h).2.2.2.2
    exact same sh hv8 (Dt.ex e8 hv3) (stop sh rfl (Dt.ex e8 hv3) e8)
  · rw [run, decide_eq_true rfl, if_neg (by decide), ok, if_neg (by decide), no] at hv3
    have hv3 : Dt H7 v3 noNumD := hv3
    exact same shN hv8 (Dt.ex e8 hv3) (stop shN rfl (Dt.ex e8 hv3) e8)
end
end Cr
/-! rows sorted by their names -/
namespace Cr
open PySem PySem.Spec PyProof.Rows L2 Evl
theorem lt_key {a b : Str} {xs ys : List PyData} (h : a ≠ b) : PySem.W.dataLt (.tuple (.str a :: xs)) (.tuple (.str b :: ys)) = decide (a.cps.toList < b.cps.toList) := by
  rw [PySem.W.dataLt_tuple, PySem.W.dataLt_cons (by simp [PySem.W.alike]), if_neg (by
    rw [PyData.eqv]
    exact fun z => h (beq_iff_eq.mp z)), PySem.W.dataLt_str]
theorem sort_by_key {α : Type} {f : α → PyData} {key : α → Str} {rest : α → List PyData} (hf : ∀ a, f a = .tuple (.str (key a) :: rest a)) {l m : List α} (nd : (l.map key).Nodup) (p : m.Perm l) (s : (m.map key).Pairwise ltS) : (l.map f).mergeSort (PySem.W.dataLe false id) = m.map f := by
  have e1 : (l.map f).mergeSort (PySem.W.dataLe false id) = (l.mergeSort (PySem.W.dataLe false f)).map f := (List.map_mergeSort (f := f) (r := PySem.W.dataLe false f) (s := PySem.W.dataLe false id) fun _ _ _ _ => rfl).symm
  rw [e1]
  congr 1
  have pm := List.mergeSort_perm l (PySem.W.dataLe false f)
  have le : ∀ a b, PySem.W.dataLe false f a b = true → leS (key a) (key b) = true := fun a b h => by
    have h : (!PySem.W.dataLt (f b) (f a)) = true := h
    by_cases e : key a = key b
    · rw [e]
      exact decide_eq_true (List.le_refl _)
    · rw [hf a, hf b, lt_key (fun z => e z.symm), Bool.not_eq_true', decide_eq_false_iff_not] at h
      exact decide_eq_true (List.not_lt.mp h)
  have s1 : (l.mergeSort (PySem.W.dataLe false f)).Pairwise (fun a b => leS (key a) (key b) = true) := (PySem.W.sort_pairwise (PySem.W.sortLe_total _ _ _) l).imp (le _ _)
  have s2 : m.Pairwise (fun a b => leS (key a) (key b) = true) := (List.pairwise_map.mp s).imp ltS_leS
  refine (pm.trans p.symm).eq_of_pairwise (fun a b ha hb h1 h2 => ?_) s1 s2
  have ek := leS_anti h1 h2
  have ha := pm.mem_iff.mp ha
  have hb := p.mem_iff.mp hb
  have uniq : ∀ {l : List α}, (l.map key).Nodup → ∀ {a b}, a ∈ l → b ∈ l → key a = key b → a = b := by
    intro l
    induction l with
    | nil => intro _ a b h; exact nomatch h
    | cons y l ih =>
      intro hn a b h h' e
      rw [List.map_cons, List.nodup_cons] at hn
      rcases List.mem_cons.mp h with u | u
      · rcases List.mem_cons.mp h' with u' | u'
        · rw [u, u']
        · exact absurd (List.mem_map_of_mem (f := key) u') (by rw [← e, u]; exact hn.1)
      · rcases List.mem_cons.mp h' with u' | u'
        · exact absurd (List.mem_map_of_mem (f := key) u) (by rw [e, u']; exact hn.1)
        · exact ih hn.2 u u' e
  exact uniq nd ha hb ek
end Cr
/-! d.items() of a dict of numbers, sorted -/
namespace Cr
open PySem PySem.Spec PyProof.Rows L2 Evl
def pI (r : Str × Int) : PyData := .tuple [.str r.1, .int r.2]
def rItemsK : V → List V → Hp → VK → Prop := fun x xs H Q => ∃ (a : Addr) (kvs : List (Key × V)), x = .ref a ∧ xs = [] ∧ H a = some (.dK kvs) ∧ ∀ p, H p = none → Q (.ref p) (upd H p (DX.itemsO p a))
theorem mt_itemsK {X : Cx} : MtR X "dict.items" rItemsK := by
  intro pins s σ H x xs v us Q I rx rxs h
  obtain ⟨a, kvs, rfl, rfl, ha, q⟩ := h
  cases rx
  cases rxs
  obtain ⟨z, hd, xs', rel, o, es, ep, ho, hx, hdat, _⟩ := (show ObjOk X.prog X.w H s.heap a (.dK kvs) from I.hok a _ ha)
  refine DT.callItems (es := es) (ep := ep) hd ⟨o, ho, hx, hdat⟩ ?_
  have hf : H s.heap.objs.size = none := I.hok.fresh (Nat.le_refl _)
  exact ⟨.ref s.heap.objs.size, upd H s.heap.objs.size (DX.itemsO s.heap.objs.size a), I.laid (t' := s.toks) (fun b u e => Heap.get?_push_of_some _ e) (Nat.le_refl _) (DX.itemsO_ok (Heap.get?_push_size _ rfl)), rfl, q _ hf⟩
def rSortItK : List V → Hp → VK → Prop := fun vs H Q => ∃ (p a : Addr) (e : List (Str × Int)), vs = [.ref p] ∧ H p = some (DX.itemsO p a) ∧ H a = some (.dK (e.map fun r => ((.inr r.1 : Key), V.int r.2))) ∧ e.length ≤ 1000 ∧
  ∀ l H', H l = none → Ex H H' → Dt H' (.ref l) (.list ((e.map pI).mergeSort (PySem.W.dataLe false id))) → Q (.ref l) H'
theorem pairs_at {P : Program} {w : World} : ∀ {es : List DictEntry} {us : List (Key × Value)} {e : List (Str × Int)} {j : Nat} {r : Str × Int}, KV (e.map fun r => ((.inr r.1 : Key), V.int r.2)) us → PySem.Pairs (mixKind P w) es us → e[j]? = some r → ∃ en t1 t2, es[j]? = some en ∧ en.key = .str r.1 t1 ∧ en.val = .int r.2 t2
  | es, us, [], j, r, kv, ps, h => by simp at h
  | es, us, y :: e, 0, r, kv, ps, h => by
    simp at h
    subst h
    cases kv with
    | cons h1 h2 =>
      cases ps with
      | cons p1 p2 p3 =>
        rename_i q _ en _
        obtain ⟨q1, q2⟩ := q
        obtain ⟨e1, rv⟩ := h1
        have e1 : (Sum.inr y.1 : Key) = q1 := e1
        subst e1
        obtain ⟨t2, rfl⟩ : ∃ t2, q2 = .int y.2 t2 := rv
        have p1 : keyIs (Sum.inr y.1) en.key = true := p1
        rcases keyIs_shape p1 with ⟨i, t, e1, e2⟩ | ⟨x, t, e1, e2⟩
        · cases e1
        · cases e1
          exact ⟨en, t, t2, rfl, e2, p2⟩
  | es, us, y :: e, j + 1, r, kv, ps, h => by
    cases kv with
    | cons h1 h2 =>
      cases ps with
      | cons p1 p2 p3 =>
        obtain ⟨en, t1, t2, a, b, c⟩ := pairs_at h2 p3 (j := j) (by simpa using h)
        exact ⟨en, t1, t2, by simpa using a, b, c⟩
theorem pairs_len {P : Program} {w : World} : ∀ {es : List DictEntry} {us : List (Key × Value)}, PySem.Pairs (mixKind P w) es us → es.length = us.length
  | _, _, .nil => rfl
  | _, _, .cons _ _ p => by rw [List.length_cons, List.length_cons, pairs_len p]
theorem each_refs {α : Type} : ∀ {out : List Value} {bs : List (Addr × α)}, PySem.W.EachIs (fun v (b : Addr × α) => v = .ref b.1) out bs → Vals (bs.map fun z => V.ref z.1) out
  | _, _, .nil => .nil
  | _, _, .cons h t => .cons h (each_refs t)
section
variable {X : Cx}
theorem cr_sortItK (hc : X.calm = true) (hu : X.A.units + 64 < cLine) : CallR X (.builtin "sorted") rSortItK := by
  intro pins s σ H xs us Q I r h
  obtain ⟨p, a, e, rfl, hp, ha, l1, q⟩ := h
  obtain rfl := Vals.ref1 r
  have view : s.heap.IsItemsView p a := (show ObjOk X.prog X.w H s.heap p (DX.itemsO p a) from I.hok p _ hp).1
  obtain ⟨z, hd, us, kv, o, es, ep, ho, hx, hdat, _, ps, _⟩ := (show ObjOk X.prog X.w H s.heap a (.dK _) from I.hok a _ ha)
  have lk := Paired.length kv
  rw [List.length_map] at lk
  have le := pairs_len ps
  have l2 : es.size = e.length := by rw [← Array.length_toList]; omega
  have hh : X.A.handled = none := I.ok.hd hc
  refine DT.sortedI (es := es) (ep := ep) hh view ⟨o, ho, hx, hdat⟩ (by rw [sizeLine_eq]; omega) fun h' tk as hk hlt hl hG => ?_
  have lak : as.length = e.length := by omega
  have nd : as.Nodup := List.Pairwise.imp (fun h => Nat.ne_of_lt h) hG.rise
  -- the pairs that were made
  have pr : ∀ (j : Nat) (b : Addr), as[j]? = some b → ∃ (r : Str × Int) (t1 t2 : _), e[j]? = some r ∧ h'.get? b = some { cls := .type "tuple", data := .seq #[Value.str r.1 t1, Value.int r.2 t2] } := by
    intro j b hj
    have hje : j < e.length := by
      have := (List.getElem?_eq_some_iff.mp hj).1
      omega
    obtain ⟨en, t1, t2, h1, h2, h3⟩ := pairs_at (r := e[j]) kv ps (List.getElem?_eq_getElem hje)
    obtain ⟨en', he, hg⟩ := hG.pairs j b hj
    rw [Array.getElem?_toList] at h1
    rw [h1] at he
    cases he
    refine ⟨e[j], t1, t2, List.getElem?_eq_getElem hje, ?_⟩
    rw [hg, h2, h3]
  have hob : (h'.push { cls := .type "list", data := .seq (as.map Value.ref).toArray }).get? h'.objs.size = some (seqObj "list" (as.map Value.ref).toArray 0) := Heap.get?_push_size _ rfl
  have kb : ∀ b o, s.heap.get? b = some o → (h'.push { cls := .type "list", data := .seq (as.map Value.ref).toArray }).get? b = some o := fun b o e => Heap.get?_push_of_some _ (hk b o e)
  have ne0 : ∀ b o, h'.get? b = some o → b ≠ h'.objs.size := fun b o e => Nat.ne_of_lt (Heap.lt_size e)
  generalize hh2 : h'.push { cls := .type "list", data := .seq (as.map Value.ref).toArray } = h2 at hob kb ⊢
  have ka : ∀ b o, h'.get? b = some o → h2.get? b = some o := fun b o e => by rw [← hh2]; exact Heap.get?_push_of_some _ e
  have mk : ∀ (as : List Addr) (e : List (Str × Int)), as.length = e.length → (∀ (j : Nat) (b : Addr), as[j]? = some b → ∃ (r : Str × Int) (t1 t2 : _), e[j]? = some r ∧ h2.get? b = some { cls := .type "tuple", data := .seq #[Value.str r.1 t1, Value.int r.2 t2] }) →
      PySem.W.EachIs (fun v (b : Addr × (Str × Int)) => v = .ref b.1) (as.map Value.ref) (as.zip e) ∧ PySem.W.EachIs (fun v (b : Addr × (Str × Int)) => ∃ bs, Reads h2 v (pI b.2) bs ∧ h'.objs.size ∉ bs) (as.map Value.ref) (as.zip e) := by
    intro as
    induction as with
    | nil => intro e _ _; exact ⟨.nil, .nil⟩
    | cons b as ih =>
      intro e hl hp
      cases e with
      | nil => simp at hl
      | cons r e =>
        obtain ⟨i1, i2⟩ := ih e (by simpa using hl) fun j b' hj => by
          obtain ⟨r', t1, t2, h1, h2⟩ := hp (j + 1) b' (by simpa using hj)
          exact ⟨r', t1, t2, by simpa using h1, h2⟩
        obtain ⟨r', t1, t2, h1, h2⟩ := hp 0 b rfl
        cases h1
        exact ⟨.cons rfl i1, .cons ⟨[], Reads.tuple h2 rfl rfl (.cons (Reads.str _ _) (.cons (Reads.int _ _) .nil)), List.not_mem_nil⟩ i2⟩
  obtain ⟨e1, e2⟩ := mk as e lak fun j b hj => by
    obtain ⟨r, t1, t2, h1, h2⟩ := pr j b hj
    exact ⟨r, t1, t2, h1, ka _ _ h2⟩
  have z2 : (as.zip e).map (·.2) = e := List.map_snd_zip (by rw [lak]; exact Nat.le_refl _)
  have zm : (as.zip e).map (fun b => pI b.2) = e.map pI := by
    rw [show (fun b : Addr × (Str × Int) => pI b.2) = pI ∘ (fun b => b.2) from rfl, ← List.map_map, z2]
  refine PySem.W.list_sort_data (s := { s with heap := h2, toks := tk }) (R := fun v (b : Addr × (Str × Int)) => v = .ref b.1) (enc := fun b => pI b.2) (vs := as.map Value.ref) (bs := as.zip e) hob e1 e2 (PySem.W.AllAlike.of fun _ _ => by unfold pI; simp [PySem.W.alike, PySem.W.alikeAll]) (PySem.W.Sortable.tuples fun _ => ⟨_, _, rfl⟩) (by rw [List.length_zip, sizeLine_eq]; omega) (fun b _ => ?_) fun out lo eo => ?_
  · have d : (pI b.2).depth ≤ 5 := by
      unfold pI
      simp [PyData.depth, PyData.depthAll]
    show X.A.units + 1 + 1 + _ < cLine
    omega
  · have perm := List.mergeSort_perm (as.zip e) (PySem.W.dataLe false fun b => pI b.2)
    obtain ⟨zs, hzs⟩ : ∃ zs, zs = (as.zip e).mergeSort (PySem.W.dataLe false fun b => pI b.2) := ⟨_, rfl⟩
    rw [← hzs] at eo perm
    have em : zs.map (fun b => pI b.2) = (e.map pI).mergeSort (PySem.W.dataLe false id) := by
      have := List.map_mergeSort (l := as.zip e) (f := fun b : Addr × (Str × Int) => pI b.2) (r := PySem.W.dataLe false fun b => pI b.2) (s := PySem.W.dataLe false id) fun _ _ _ _ => rfl
      rw [hzs, this, zm]
    have rv := each_refs eo
    have kF : ∀ b o, b ≠ h'.objs.size → h2.get? b = some o → (sortedHeap h2 h'.objs.size (as.map Value.ref) out.toArray).get? b = some o := fun b o hb e => (PyProof.Rows.sortedHeap_old hb (Heap.lt_size e)).trans e
    have kS : ∀ b o, s.heap.get? b = some o → (sortedHeap h2 h'.objs.size (as.map Value.ref) out.toArray).get? b = some o := fun b o e => kF b o (ne0 _ _ (hk b o e)) (kb b o e)
    obtain ⟨eF, heF⟩ := PyProof.Rows.sortedHeap_at (vs := as.map Value.ref) (out := out.toArray) hob
    have I1 : Inv X pins σ H { s with heap := sortedHeap h2 h'.objs.size (as.map Value.ref) out.toArray, toks := tk } := I.kept (t' := tk) kS
    have hn0 : H h'.objs.size = none := I.hok.fresh (Nat.le_of_lt hlt)
    have hlen : (zs.map fun z => V.ref z.1).length ≤ sizeLine := by
      have e := perm.length_eq
      rw [List.length_zip] at e
      rw [List.length_map, sizeLine_eq]
      omega
    have I2 : Inv X pins σ (upd H h'.objs.size (.lst (zs.map fun z => V.ref z.1))) { s with heap := sortedHeap h2 h'.objs.size (as.map Value.ref) out.toArray, toks := tk } :=
      I1.take (h' := sortedHeap h2 h'.objs.size (as.map Value.ref) out.toArray) (t' := tk) (fun b ob _ e => e) (I.fpOk (Nat.le_of_lt hlt) hn0) ⟨hlen, out, eF, rv, heF⟩
    obtain ⟨H2, I3, g, qt⟩ := DX.takeT (P := fun b vs => ∃ (j : Nat) (r : Str × Int), as[j]? = some b ∧ e[j]? = some r ∧ vs = [.str r.1, .int r.2]) I as _ I2 nd fun b hb => by
      obtain ⟨j, hj⟩ := List.mem_iff_getElem?.mp hb
      obtain ⟨r, t1, t2, he, hg⟩ := pr j b hj
      have hbl : s.heap.objs.size ≤ b := Nat.le_of_lt (hG.above b hb)
      refine ⟨hbl, ?_, [.str r.1, .int r.2], ⟨j, r, hj, he, rfl⟩, fun H3 => ⟨(by rw [sizeLine_eq]; show 2 ≤ 16777216; omega), [Value.str r.1 t1, Value.int r.2 t2], .cons ⟨t1, rfl⟩ (.cons ⟨t2, rfl⟩ .nil), ⟨_, kF _ _ (ne0 _ _ hg) (ka _ _ hg), rfl, 0, rfl⟩⟩⟩
      rw [upd_ne (ne0 _ _ hg)]
      exact I.hok.fresh hbl
    have gr : Ex H H2 := fun b o e => g b o (by rw [upd_ne (ne_of_none e hn0)]; exact e)
    refine ⟨.ref h'.objs.size, H2, I3, rfl, q _ H2 hn0 gr ?_⟩
    rw [← em]
    refine .lst (g _ _ upd_same) ?_
    have one : ∀ z ∈ zs, Dt H2 (.ref z.1) (pI z.2) := fun z' hz' => by
      obtain ⟨j, hj⟩ := List.mem_iff_getElem?.mp (perm.mem_iff.mp hz')
      obtain ⟨i1, i2⟩ := List.getElem?_zip_eq_some.mp hj
      obtain ⟨vs, ⟨i, r, j1, j2, ev⟩, hH⟩ := qt z'.1 (List.mem_of_getElem? i1)
      have eij : i = j := (List.getElem?_inj (List.getElem?_eq_some_iff.mp j1).1 nd).mp (j1.trans i1.symm)
      subst eij
      rw [i2] at j2
      cases j2
      rw [ev] at hH
      exact .tup hH (.cons (.str _) (.cons (.int _) .nil))
    have go : ∀ zs : List (Addr × (Str × Int)), (∀ z ∈ zs, Dt H2 (.ref z.1) (pI z.2)) → DtAll H2 (zs.map fun z => V.ref z.1) (zs.map fun b => pI b.2) := by
      intro zs
      induction zs with
      | nil => exact fun _ => .nil
      | cons z zs ih => exact fun one => .cons (one z List.mem_cons_self) (ih fun y hy => one y (List.mem_cons_of_mem _ hy))
    exact go zs one
end
end Cr
/-! k44: _law_stands -/
namespace Cr
open PySem PySem.Spec PyProof.Rows L2 Evl LiI
abbrev sSd4 : Stmt := topS 32
abbrev nSd4 : List Str := ["_law_registry", "_law_due", "_law_labels", "_law_module", "_law_told_here", "_law_label", "_law_is_there"]
theorem scSd4 : FnScope nSd4 ["_law_registry", "_law_due", "_law_labels"] (defScope sSd4) := ⟨rfl, rfl, rfl, by decide +kernel, rfl, by decide +kernel, by decide +kernel⟩
theorem bSrt4 : bootBuiltins "sorted" = some (.builtin "sorted") := by decide +kernel
theorem exp_sort4 {e : Ints} (nd : (keysA e).Nodup) : (e.map pI).mergeSort (PySem.W.dataLe false id) = (expI e).map pI := by
  have key : ∀ r ∈ e, getA e r.1 = some r.2 := fun r hr => by
    obtain ⟨v, hv⟩ := getA_some (List.mem_map_of_mem (f := (·.1)) hr)
    have y := nodup_key nd (getA_mem hv) hr rfl
    rw [hv, ← y]
  unfold expI
  refine sort_by_key (f := pI) (key := fun r => r.1) (rest := fun r => [.int r.2]) (fun _ => rfl) nd ?_ ?_
  · have p := (srtS_perm (keysA e)).map fun l => (l, (getA e l).getD 0)
    refine p.trans (List.Perm.of_eq ?_)
    unfold keysA
    rw [List.map_map]
    refine (List.map_congr_left fun r hr => ?_).trans (List.map_id e)
    show (r.1, (getA e r.1).getD 0) = r
    rw [key r hr]
    rfl
  · rw [List.map_map]
    have z : ((srtS (keysA e)).map ((fun r : Str × Int => r.1) ∘ fun l => (l, (getA e l).getD 0))) = srtS (keysA e) := List.map_id _
    rw [z]
    exact srtS_lt nd
theorem items_dts {H' : Hp} : ∀ {e : Ints} {ts : List Addr}, Paired (fun (t : Addr) (q : Key × V) => H' t = some (.tup [kV q.1, q.2])) ts (kvInt e) → DtAll H' (ts.map V.ref) (e.map pI)
  | [], ts, h => by cases h; exact .nil
  | r :: e, ts, h => by
    cases h with
    | cons h1 h2 => exact .cons (.tup h1 (.cons (.str _) (.cons (.int _) .nil))) (items_dts h2)
section
variable {K : PySem.W.Frag} {te : TE} {σ : L2.St} {H : Hp} {D : Addr} {e : Ints}
theorem evd_items4 (h : Ev te σ H (.ref D)) (hD : H D = some (.dK (kvInt e))) : EvD (tListItems te) σ H (.list (e.map pI)) := fun H1 e1 Q q =>
  h H1 e1 _ fun H2 e2 => ⟨D, kvInt e, rfl, (e1.trans e2) _ _ hD, fun H' p ts ex zp zt np hp pr => q (.ref p) H' (e2.trans ex) (.lst hp (items_dts pr))⟩
theorem evd_sortItems4 (h : Ev te σ H (.ref D)) (hD : H D = some (.dK (kvInt e))) (few : e.length ≤ 1000) (nd : (keysA e).Nodup) : EvD (tCB rSortItK (tCons (tBM0 K "dict" rItemsK te) tNil)) σ H (.list ((expI e).map pI)) := fun H1 e1 Q q =>
  h H1 e1 _ fun H2 e2 => by
    have hD2 := (e1.trans e2) _ _ hD
    refine ⟨.inr (.inr (.inl ⟨rfl, .inl ⟨_, hD2⟩⟩)), D, kvInt e, rfl, rfl, hD2, fun p zp => ⟨p, D, e, rfl, upd_same, Ex.new zp _ _ hD2, few, fun l H' zl ex hd => ?_⟩⟩
    rw [exp_sort4 nd] at hd
    exact q (.ref l) H' (e2.trans ((Ex.new zp).trans ex)) hd
end
/-- what is asked for -/
def oddS4 : List PyData := [.str "A", .none, .int 0, .str "", .list [], .dict [], .tuple [.str "a"], .int (-1)]
def thereX (e : Ints) : PyData → Bool
  | .str z => (getA e z).isSome
  | _ => false
def dueX (e : Ints) : PyData → Int
  | .str z => (getA e z).getD (-1)
  | _ => -1
theorem due_val {e : Ints} (nm : ∀ r ∈ e, isNameS r.1 = true) (d : PyData) : valX e d = dueX e d := by
  cases d with
  | str z =>
    show (if isNameS z = true then (getA e z).getD (-1) else -1) = (getA e z).getD (-1)
    by_cases h : isNameS z = true
    · rw [if_pos h]
    · rw [if_neg h]
      cases hg : getA e z with
      | none => rfl
      | some v => exact absurd (nm _ (getA_mem hg)) h
  | _ => rfl
theorem oddS4_sm {d : PyData} (h : d ∈ oddS4) : sm d = true := by
  simp only [oddS4, List.mem_cons, List.not_mem_nil, or_false] at h
  rcases h with rfl | rfl | rfl | rfl | rfl | rfl | rfl | rfl <;> decide +kernel
def spSd4 (C CG : Addr) : Sp := fun vs H Q _ => ∃ p x d lb HB A ns lbs R dx, vs = [.ref x, .ref d, .ref lb] ∧ Sc44 C CG p x d lb HB H A ns lbs R dx ∧ ∀ H', Ex H H' → Q (.bl true) H'
section
variable {P : Program} {w : World} {K : PySem.W.Frag} {mg : Str → Option Value} {base : Heap}
theorem ok_sd4 {f C CG : Addr} {fd : FuncData} {k : Nat} (F : Fun K "_law_stands" "_law_stands" sSd4 f fd) (B : Blt mg) (T : RgC K mg C) (h1 : HasM P w K mg base CX0 k C "exports" ["self", "module"] (spREx C CG)) (h2 : HasM P w K mg base CX0 k C "value_of" ["self", "module", "name"] (spRVo C CG)) : FnG P w K mg base CX0 (k + 1) f fd ["_law_registry", "_law_due", "_law_labels"] (spSd4 C CG) := by
  obtain ⟨f1, d1, G1, b1, m1⟩ := h1.ex
  obtain ⟨f2, d2, G2, b2, m2⟩ := h2.ex
  refine okG F scSd4 (fun vs H Q E h => by obtain ⟨_, _, _, _, _, _, _, _, _, _, rfl, _⟩ := h; rfl) (fun cdv A outer s H vs Q E hq hr h => ?_)
  obtain ⟨p, x, d, lb, HB, A', ns, lbs, R, dx, rfl, sc, q⟩ := h
  have hu : (A.deeper (envOfC "_law_stands" (defScope sSd4) s.heap.objs.size f cdv)).units + 1 < cLine := by have := hr.units; omega
  refine ⟨_, pss_cons (ps_lock (ps_for PassesOwn.never rfl (pi_keys (pv 1)) (pg_name (i := 3) scSd4.nd rfl (.inl rfl))
      (pss_cons (ps_set (i := 4) scSd4.nd rfl (.inl rfl) (pe_meth (E := E0) (pv 0) T.cl m1 G1 hr b1 .nil pass0 (pa_cons (pv 3) pa_nil)))
      (pss_cons (ps_if (pt_cmpR op_ne (pe_callB (call_reprG hq hr.units) (by rfl) B.repr bRepr (pa_cons (pe_listItems rfl (pv 4) (by rfl) B.list bList) pa_nil)) (pe_callB (call_reprG hq hr.units) (by rfl) B.repr bRepr (pa_cons (pe_callB (cr_sortItK rfl hr.units) (by rfl) B.sorted bSrt4 (pa_cons (pe_bm0 PySem.F.plainAttrs_dict PySem.F.slot_dict_items PySem.F.type_dict_items mt_itemsK (pe_dget hu (pv 1) (pv 3) (fun _ _ => rfl))) pa_nil)) pa_nil)) (nomark _)) (pss_one (ps_ret pe_bl)) pss_nil)
      (pss_cons (ps_dput hu (pv 4) (pe_ix ix_list (pv 2) pe_int (fun _ _ => rfl)) pe_str rfl)
      (pss_cons (ps_expr (pe_dclear (pv 4)))
      (pss_one (ps_for PassesOwn.never rfl (pi_list (pe_op op_cat (pv 2) (pe_lst (pa_cons pe_str (pa_cons pe_non (pa_cons pe_int (pa_cons pe_str (pa_cons (pe_lst pa_nil) (pa_cons pe_dnewK (pa_cons (pe_tup (pa_cons pe_str pa_nil)) (pa_cons (pe_un un_neg pe_int) pa_nil))))))))))) (pg_name (i := 5) scSd4.nd rfl (.inl rfl))
        (pss_cons (ps_set (i := 6) scSd4.nd rfl (.inl rfl) (pe_and (pe_callB call_isi (by rfl) B.isi bIsi (pa_cons (pv 5) (pa_cons (pe_bltn (v := .ty "str") (by rfl) B.str bStr rfl) pa_nil))) (pe_one (pe_cmp (pc_din hu (pv 5) (pe_dget hu (pv 1) (pv 3) (fun _ _ => rfl)))))))
        (pss_one (ps_if (pt_cmpR op_ne (pe_callB (call_reprG hq hr.units) (by rfl) B.repr bRepr (pa_cons (pe_meth (E := E0) (pv 0) T.cl m2 G2 hr b2 .nil pass0 (pa_cons (pv 3) (pa_cons (pv 5) pa_nil))) pa_nil)) (pe_callB (call_reprG hq hr.units) (by rfl) B.repr bRepr (pa_cons (pe_ifExp (pt_val (pv 6)) (pe_dget hu (pe_dget hu (pv 1) (pv 3) (fun _ _ => rfl)) (pv 5) (fun _ _ => rfl)) (pe_un un_neg pe_int)) pa_nil)) (nomark _)) (pss_one (ps_ret pe_bl)) pss_nil)))))))))))
    (pss_one (ps_ret pe_bl)), ?_⟩
  have n8 := sc.n8
  have kdE : (kvX dx).map (·.1) = ns.map Sum.inr := by rw [← sc.kd]; unfold kvX; rw [List.map_map, List.map_map]; rfl
  have dR := sc.ap.dR d List.mem_cons_self
  refine ⟨d, .dK (kvX dx), sc.ap.du.hD, trivial, fun od => ?_⟩
  have lk : (upd H d (.frz od (.dK (kvX dx)))) d = some (.frz od (.dK (kvX dx))) := upd_same
  have rgL : RgAt C CG HB (upd H d (.frz od (.dK (kvX dx)))) x A' (srtS ns) R := sc.ap.rg.butR (l := [d]) ((But.refl H).upd (by simp)) (fun a ha z => by rw [List.mem_singleton.mp z] at ha; exact dR.1 ha) (fun a ha C dx' fs z => by rw [List.mem_singleton.mp ha, sc.ap.du.hD] at z; cases z) (fun a ha => by rw [List.mem_singleton.mp ha]; exact dR.2)
  have hIL : ∀ r ∈ dx, (upd H d (.frz od (.dK (kvX dx)))) r.2.1 = some (.dK (kvInt r.2.2)) := fun r hr => by
    have na : r.2.1 ≠ d := fun e => (List.nodup_cons.mp sc.ap.du.nn).1 (by rw [← e]; exact List.mem_map_of_mem (f := xAd) hr)
    rw [upd_ne na]
    exact sc.ap.du.hI r hr
  have lbd : lb ≠ d := fun e => by have z := sc.hlb; rw [e, dR.2] at z; cases z
  have hlL : (upd H d (.frz od (.dK (kvX dx)))) lb = some (.lst (lbs.map V.str)) := by rw [upd_ne lbd]; exact sc.lst
  have out : ∀ {H' : Hp}, Ex (upd H d (.frz od (.dK (kvX dx)))) H' → Ex H (upd H' d (.dK (kvX dx))) := fun {H'} e c o hc => by
    by_cases ec : c = d
    · rw [ec, upd_same]
      rw [ec, sc.ap.du.hD] at hc
      exact hc
    · rw [upd_ne ec]
      exact e _ _ (by rw [upd_ne ec]; exact hc)
  generalize upd H d (.frz od (.dK (kvX dx))) = HL at lk rgL hIL hlL out ⊢
  refine ⟨.ref d, rfl, d, od, rfl, .inl ⟨kvX dx, lk, for_it walk_keys (fun m σ' H' => ∃ y3 y4 y5 y6, σ' = [some (.ref x), some (.ref d), some (.ref lb), y3, y4, y5, y6] ∧ Ex HL H') ⟨_, _, _, _, rfl, Ex.refl HL⟩ (fun m σ' H' _ hP => ?_) (fun m u σ' H' H'' hm hP hY => ?_) (fun σ' H' hP => ?_)⟩⟩
  · obtain ⟨_, _, _, _, _, e⟩ := hP
    exact e _ _ lk
  · obtain ⟨y3, y4, y5, y6, rfl, e2⟩ := hP
    obtain ⟨rfl, k0, v0, hk0, rfl⟩ := hY
    obtain ⟨n, hn, rfl⟩ : ∃ n, n ∈ ns ∧ k0 = .inr n := by
      have z := congrArg (·[m]?) kdE
      simp only [List.getElem?_map] at z
      rw [hk0] at z
      cases hh : ns[m]? with
      | none => rw [hh] at z; cases z
      | some n => rw [hh] at z; exact ⟨n, List.mem_of_getElem? hh, Option.some.inj z⟩
    show tSeq _ _ _ [some (.ref x), some (.ref d), some (.ref lb), some (.str n), y4, y5, y6] H''
    obtain ⟨b, e, hg, mem, he, hv⟩ := due_get sc.kd hn
    have nS := inS4 hn
    have er : exR R n = e := (sc.rel n hn).trans he
    have ndE : (keysA e).Nodup := sc.xi _ mem
    have lenE : e.length ≤ 4 := sc.few _ mem
    have labE := sc.lab _ mem
    have nmE : ∀ r ∈ e, isNameS r.1 = true := fun r hr => sc.lnm _ (labE r hr).1
    have fewR : ∀ r ∈ R.ex, r.2.2.length < 64 := fun r hr => by have := sc.fewR r hr; omega
    have expL : (expI e).length ≤ 4 := by
      unfold expI
      rw [List.length_map, (srtS_perm _).length_eq]
      unfold keysA
      rw [List.length_map]
      exact lenE
    have szE : Fits (.list ((expI e).map pI)) := by
      have z := sz_list (sza_all (b := 20) (m := 1) (ds := (expI e).map pI) fun y hy => by
        obtain ⟨r, hr, rfl⟩ := List.mem_map.mp hy
        unfold expI at hr
        obtain ⟨l, hl, rfl⟩ := List.mem_map.mp hr
        obtain ⟨v, hv'⟩ := getA_some (l := e) (n := l) ((srtS_perm _).mem_iff.mp hl)
        have me := labE _ (getA_mem hv')
        have sv : ((getA e l).getD 0).natAbs ≤ 10 ^ 70 := by rw [hv']; exact Nat.le_trans me.2 (by decide +kernel)
        exact (sz_tuple (m := 0) (b := 10) (sza_cons (b := 8) (b' := 1) (name_sz4 (sc.lnm _ me.1)) (sza_cons (b := 0) (b' := 0) (sz_int sv) (sza_nil (b := 0))))).mono (by decide) (by decide))
      refine z.fits ?_ (by decide)
      rw [List.length_map]
      omega
    -- the exports, as they are told
    refine q_asgAny ⟨.ref x, rfl, x, A'.dx, _, rfl, (rgL.ex e2).ob, rfl, .str n, rfl, x, n, HB, A', srtS ns, R, rfl, rgL.ex e2, nS, fewR, fun D H3 zD e3 hD => ?_⟩
    show tSeq _ _ _ [some (.ref x), some (.ref d), some (.ref lb), some (.str n), some (.ref D), y5, y6] H3
    rw [er] at hD
    have e23 := e2.trans e3
    have hvd : ∀ {H' : Hp}, Ex HL H' → Ev (tDGet (tVar 1) (tVar 3)) [some (.ref x), some (.ref d), some (.ref lb), some (.str n), some (.ref D), y5, y6] H' (.ref b) := fun ex => ev_dgRd (x := n) (ev_var (i := 1) rfl) (ev_var (i := 3) rfl) (.inr ⟨od, ex _ _ lk⟩) hv
    have r1 := ev_reprD (evd_items4 (te := tVar 4) (σ := [some (.ref x), some (.ref d), some (.ref lb), some (.str n), some (.ref D), y5, y6]) (H := H3) (ev_var (i := 4) rfl) hD) szE
    have r2 := ev_reprD (evd_sortItems4 (K := K) (hvd e23) (e23 _ _ (hIL _ mem)) (Nat.le_trans lenE (by decide)) ndE) szE
    refine q_when (b := false) (et_is (et_test (ev_op r1 r2 (rv_ne rfl))) (by rw [decide_eq_true rfl]; rfl)) (fun z => nomatch z) (fun _ H4 e4 => ?_)
    have hD4 := e4 _ _ hD
    have e24 := e23.trans e4
    have zDL : HL D = none := fresh_back e2 zD
    -- it is changed
    obtain ⟨l0, hl0⟩ : ∃ l0, lbs[0]? = some l0 := ⟨lbs[0]'(by have := sc.l1; omega), List.getElem?_eq_getElem _⟩
    have dp := DPut.k (k := Sum.inr l0) (v := .str "x") hD4 (by
      unfold kvInt
      rw [List.length_map, sizeLine_eq]
      omega)
    refine ⟨.ref D, rfl, ?_⟩
    refine ev_op (ev_var (i := 2) rfl) ev_c (rv_ixL (i := 0) (sq_of (e24 _ _ hlL)) (atI_nat (j := 0) (by rw [List.getElem?_map, hl0]; rfl))) H4 (Ex.refl H4) _ fun H5 e5 => ?_
    refine ⟨D, _, rfl, DPut.k (k := Sum.inr l0) (v := .str "x") (e5 _ _ hD4) (by
      unfold kvInt
      rw [List.length_map, sizeLine_eq]
      have : (expI e).length ≤ 4 := expL
      omega), ?_⟩
    dsimp only
    -- and emptied
    have e6 : ∀ {o1 o2 : HO}, Ex HL (upd (upd H5 D o1) D o2) := fun {o1 o2} c o hc => by
      have cD : c ≠ D := ne_of_none hc zDL
      rw [upd_ne cD, upd_ne cD]
      exact (e24.trans e5) _ _ hc
    refine q_dropAny ⟨.ref D, rfl, .inr (.inr (.inl ⟨rfl, .inl ⟨_, upd_same⟩⟩)), D, _, rfl, rfl, upd_same, ?_⟩
    have e6' := e6 (o1 := .dK (putK (kvInt (expI e)) (.inr l0) (.str "x"))) (o2 := .dK [])
    generalize upd (upd H5 D (.dK (putK (kvInt (expI e)) (.inr l0) (.str "x")))) D (.dK []) = H6 at e6' ⊢
    -- value by value
    have hlb6 : Dt H6 (.ref lb) (.list (lbs.map PyData.str)) := .lst (e6' _ _ hlL) (dts_map _ PyData.str (fun x => .str x) lbs)
    have l4 := sc.l4
    refine s_forD (g := gName 5) (Pv := fun σ' => ∃ y5 y6, σ' = [some (.ref x), some (.ref d), some (.ref lb), some (.str n), some (.ref D), y5, y6]) (evd_cat (ds := lbs.map PyData.str) (es := oddS4) (evd_var (i := 2) rfl hlb6) (evd_lst (evda_cons evd_str (evda_cons evd_non (evda_cons (evd_of ev_c (.int 0)) (evda_cons evd_str (evda_cons (evd_lst evda_nil (by decide)) (evda_cons evd_dnew (evda_cons (evd_tup (evda_cons evd_str evda_nil) (by decide)) (evda_cons (evd_of (v := .int (-1)) (fun H7 e7 Q' q' => ⟨1, rfl, q' H7 (Ex.refl H7)⟩) (.int (-1))) evda_nil)))))))) (by decide)) (by rw [List.length_map]; show lbs.length + 8 ≤ 1000; omega)) ⟨_, _, rfl⟩ (fun H7 e7 v dd σ' H8 hdd e8 hv8 hP => ?_) (fun σ' H7 hP e7 => ?_)
    · obtain ⟨y5', y6', rfl⟩ := hP
      have e68 := e6'.trans (e7.trans e8)
      have rg8 := rgL.ex e68
      have smd : sm dd = true := by
        rcases List.mem_append.mp hdd with z | z
        · obtain ⟨y, hy, rfl⟩ := List.mem_map.mp z
          exact sm_name (sc.lnm y hy)
        · exact oddS4_sm z
      have hb8 := e68 _ _ (hIL _ mem)
      show tSeq _ _ _ [some (.ref x), some (.ref d), some (.ref lb), some (.str n), some (.ref D), some v, y6'] H8
      have dgb : ∀ {σ : L2.St} {H' : Hp}, σ[1]? = some (some (.ref d)) → σ[3]? = some (some (.str n)) → Ex HL H' → Ev (tDGet (tVar 1) (tVar 3)) σ H' (.ref b) := fun h1 h3 ex => ev_dgRd (x := n) (ev_var h1) (ev_var h3) (.inr ⟨od, ex _ _ lk⟩) hv
      have there : Ev (tAndV (tCB (rIsi K) (tCons (tVar 5) (tCons (tC (.ty "str")) tNil))) (tDIn (tVar 5) (tDGet (tVar 1) (tVar 3)))) [some (.ref x), some (.ref d), some (.ref lb), some (.str n), some (.ref D), some v, y6'] H8 (.bl (thereX e dd)) := by
        refine ev_is (ev_andV (a := isT "str" dd) (b := thereX e dd) (ev_cb (ea_cons (ev_var (i := 5) rfl) (ea_cons ev_c ea_nil)) (rc_isi hv8 (by simp))) fun hT => ?_) (by cases dd <;> rfl)
        obtain ⟨z, rfl⟩ := isT_strX hT
        have ev : v = .str z := by cases hv8; rfl
        subst ev
        refine ev_is (ev_dinR (ev_var (i := 5) rfl) (dgb rfl rfl e68) hb8) ?_
        congr 1
        unfold kvInt
        rw [valV_mapA V.int]
        show ((getA e z).map V.int).isSome = (getA e z).isSome
        cases getA e z <;> rfl
      refine q_asg (v := .bl (thereX e dd)) there fun H9 e9 => ?_
      have e69 := e68.trans e9
      have hv9 := Dt.ex e9 hv8
      have rg9 := rgL.ex e69
      show tIfS _ _ _ _ [some (.ref x), some (.ref d), some (.ref lb), some (.str n), some (.ref D), some v, some (.bl (thereX e dd))] H9
      have fitJ : Fits (.int (dueX e dd)) := by
        refine (sz_int (b := 0) (m := 0) ?_).fits (by decide) (by decide)
        cases dd with
        | str z =>
          show ((getA e z).getD (-1)).natAbs ≤ 10 ^ 70
          cases hgz : getA e z with
          | none => show ((-1 : Int)).natAbs ≤ 10 ^ 70; decide +kernel
          | some j => exact Nat.le_trans (labE _ (getA_mem hgz)).2 (by decide +kernel)
        | _ => show ((-1 : Int)).natAbs ≤ 10 ^ 70; decide +kernel
      have v1 : EvD (tMeth C "value_of" (spRVo C CG) [] E0 (tVar 0) (tCons (tVar 3) (tCons (tVar 5) tNil))) [some (.ref x), some (.ref d), some (.ref lb), some (.str n), some (.ref D), some v, some (.bl (thereX e dd))] H9 (.int (dueX e dd)) := evd_of (fun Ha ea Q' q' => by
        refine ⟨.ref x, rfl, x, A'.dx, _, rfl, (rg9.ex ea).ob, rfl, .str n, rfl, v, rfl, x, n, v, dd, HB, A', srtS ns, R, rfl, rg9.ex ea, nS, Dt.ex ea hv9, smd, fun Hb eb => ?_⟩
        rw [er, due_val nmE]
        exact q' Hb eb) (.int _)
      have v2 : EvD (tIf (tB (tVar 6)) (tDGet (tDGet (tVar 1) (tVar 3)) (tVar 5)) (tUn (rU fun i => .int (-i)) (tC (.int 1)))) [some (.ref x), some (.ref d), some (.ref lb), some (.str n), some (.ref D), some v, some (.bl (thereX e dd))] H9 (.int (dueX e dd)) := evd_of (ev_if (b := thereX e dd) (et_B (ev_var (i := 6) rfl)) (fun hth => by
        obtain ⟨z, rfl⟩ : ∃ z, dd = .str z := by cases dd <;> first | exact ⟨_, rfl⟩ | exact nomatch hth
        have ev : v = .str z := by cases hv9; rfl
        subst ev
        have hth : (getA e z).isSome = true := hth
        obtain ⟨j, hj⟩ := Option.isSome_iff_exists.mp hth
        refine ev_dgRd (x := z) (dgb rfl rfl e69) (ev_var (i := 5) rfl) (.inl (e69 _ _ (hIL _ mem))) ?_
        unfold kvInt
        rw [valV_mapA V.int]
        show (getA e z).map V.int = some (.int ((getA e z).getD (-1)))
        rw [hj]
        rfl) (fun hth => by
        have z : dueX e dd = -1 := by
          cases dd with
          | str z =>
            have hth : (getA e z).isSome = false := hth
            show (getA e z).getD (-1) = -1
            cases hgz : getA e z with
            | none => rfl
            | some j => rw [hgz] at hth; cases hth
          | _ => rfl
        rw [z]
        exact fun Ha ea Q' q' => ⟨1, rfl, q' Ha (Ex.refl Ha)⟩)) (.int _)
      refine s_when (b := false) (et_is (et_test (ev_op (ev_reprD v1 fitJ) (ev_reprD v2 fitJ) (rv_ne rfl))) (by rw [decide_eq_true rfl]; rfl)) (fun z => nomatch z) (fun _ Ha ea => ?_)
      exact ⟨⟨_, _, rfl⟩, e8.trans (e9.trans ea)⟩
    · obtain ⟨y5', y6', rfl⟩ := hP
      exact ⟨_, _, _, _, rfl, e6'.trans e7⟩
  · obtain ⟨y3, y4, y5, y6, rfl, e2⟩ := hP
    refine ⟨e2 _ _ lk, ?_⟩
    dsimp only
    exact s_ret (v := .bl true) ev_c fun H3 e3 => q H3 ((out e2).trans e3)
end
end Cr
/-! registries: failures and releases, gathered -/
namespace Cr
open PySem PySem.Spec PyProof.Rows L2 Evl
/-- registry.fail, called with a cause and without -/
structure FailP (P : Program) (w : World) (K : PySem.W.Frag) (mg : Str → Option Value) (base : Heap) (k : Nat) (C CG CW : Addr) : Prop where
  ex : ∃ f fd, FnOk P w K mg base (L2.CX P w) k f fd ["self", "module", "because"] (spRFa C CG CW) ∧ (∃ ds, Vals [.non] ds ∧ Binds K fd ["self", "module", "because"] ds) ∧ (∃ g, KBn K fd ["self", "module", "because"] 2 ["because"] g (fun vs zs => vs ++ zs)) ∧ Meth K C "fail" f
/-- a method with because by its name alone, None where it lacks -/
def MethKwB (K : PySem.W.Frag) (C : Addr) (m qual : Str) (st : Stmt) : Prop := ∃ (f D : Addr) (od an : Option Addr) (sl : Array (Option Value)) (oc dc pm cd ct : Value),
  PySem.W.findIn K (.ref C) m = some (some (.ref f)) ∧ PySem.W.isFn K (.ref f) = true ∧ K.lookup f = some ⟨oc, od, .func (PySem.W.fnOf m qual (defArgs st) (defBody st) (defScope st) .none (.ref D) dc pm an cd ct), sl⟩ ∧ PySem.W.codeIn K cd qual = true ∧ PySem.W.keepIn K (.ref f) = true ∧ PySem.W.nsIn K D "because" = some (some .none)
theorem methKwB {K : PySem.W.Frag} {C : Addr} {m qual : Str} {st : Stmt} {f D : Addr} {od an : Option Addr} {sl : Array (Option Value)} {oc dc pm cd ct : Value} (a : PySem.W.findIn K (.ref C) m = some (some (.ref f))) (i : PySem.W.isFn K (.ref f) = true)
    (l : K.lookup f = some ⟨oc, od, .func (PySem.W.fnOf m qual (defArgs st) (defBody st) (defScope st) .none (.ref D) dc pm an cd ct), sl⟩) (c : PySem.W.codeIn K cd qual = true) (k : PySem.W.keepIn K (.ref f) = true) (n : PySem.W.nsIn K D "because" = some (some .none)) : MethKwB K C m qual st :=
  ⟨f, D, od, an, sl, oc, dc, pm, cd, ct, a, i, l, c, k, n⟩
theorem FailP.up {P : Program} {w : World} {K : PySem.W.Frag} {mg : Str → Option Value} {base : Heap} {j k : Nat} {C CG CW : Addr} (h : FailP P w K mg base j C CG CW) (jk : j ≤ k) : FailP P w K mg base k C CG CW := by
  obtain ⟨f, fd, a, b, c, d⟩ := h.ex
  exact ⟨f, fd, a.mono jk, b, c, d⟩
structure RgFl (P : Program) (w : World) (K : PySem.W.Frag) (mg : Str → Option Value) (base : Heap) (C CG CW : Addr) : Prop where
  fa : FailP P w K mg base 7 C CG CW
  ch : HasM P w K mg base (L2.CX P w) 7 C "chain" ["self", "module"] (spRCh C CG CW)
  ih : HasM P w K mg base CX0 3 C "is_held" ["self", "module"] (spRIh C CG)
  rc : HasM P w K mg base CX0 4 C "recorded" ["self"] (spRRc C CG)
theorem rgf_mk {P : Program} {w : World} {K : PySem.W.Frag} {mg : Str → Option Value} {base : Heap} {C CG CNm CNo CW CM : Addr} (RH : RgHas P w K mg base C CG CNm CNo CW CM) (B : Blt mg)
    (mCo : MethAt K CG "clone" "Needs.clone" sNClone) (mSr : MethAt K CG "sources" "Needs.sources" sNSrc) (rS : MethAt K C "sink" "Registry.sink" sRSk) (rN : MethAt K C "next_round" "Registry.next_round" sRNx) (rF : MethKwB K C "fail" "Registry.fail" sRFa)
    (rC : MethAt K C "chain" "Registry.chain" sRCh) (rI : MethAt K C "is_held" "Registry.is_held" sRIh)
    (rR : MethAt K C "recorded" "Registry.recorded" sRRc) : RgFl P w K mg base C CG CW := by
  have T := RH.T
  have TN := RH.N
  have hCo : HasM P w K mg base CX0 3 CG "clone" ["self"] (spClone CG) := hasM_mk mCo (fun _ _ _ _ _ _ us hl => match us, hl with | [_], _ => rfl) fun f fd F => ok_clone (k := 2) F B TN (by decide) (RH.nmk 0).ex
  have hSr : HasM P w K mg base CX0 4 CG "sources" ["self", "name"] (spSources CG) := hasM_mk mSr (fun _ _ _ _ _ _ us hl => match us, hl with | [_, _], _ => rfl) fun f fd F => ok_sources F B TN RH.nis
  have hSk : HasM P w K mg base CX0 4 C "sink" ["self", "module", "chain"] (spRSk C CG) := hasM_mk rS (fun _ _ _ _ _ _ us hl => match us, hl with | [_, _, _], _ => rfl) fun f fd F => ok_rsk F T TN RH.nda
  have hNx : HasM P w K mg base CX0 5 C "next_round" ["self", "sunken"] (spRNx C CG) := hasM_mk rN (fun _ _ _ _ _ _ us hl => match us, hl with | [_, _], _ => rfl) fun f fd F => ok_rnx F B T TN hSr
  have hCh : HasM P w K mg base (L2.CX P w) 7 C "chain" ["self", "module"] (spRCh C CG CW) := hasM_mk rC (fun _ _ _ _ _ _ us hl => match us, hl with | [_, _], _ => rfl) fun f fd F => ok_rch F B T (RH.kn.up (by decide)) RH.cs
  have hIh : HasM P w K mg base CX0 3 C "is_held" ["self", "module"] (spRIh C CG) := hasM_mk rI (fun _ _ _ _ _ _ us hl => match us, hl with | [_, _], _ => rfl) fun f fd F => ok_rih F T RH.kn
  have hRc : HasM P w K mg base CX0 4 C "recorded" ["self"] (spRRc C CG) := hasM_mk rR (fun _ _ _ _ _ _ us hl => match us, hl with | [_], _ => rfl) fun f fd F => ok_rrc F T TN hCo
  have hFa : FailP P w K mg base 7 C CG CW := by
    obtain ⟨f', D', od', an', sl', oc', dc', pm', cd', ct', a', i', l', c', kp', m'⟩ := rF
    have F' := fun_mk (st := sRFa) l' c' kp'
    have FD : FunD K "fail" "Registry.fail" (defArgs sRFa) (defBody sRFa) (defScope sRFa) [] [("because", .non)] f' _ := ⟨⟨oc', od', .none, .ref D', dc', pm', an', cd', ct', sl', rfl, l', c', .inl ⟨rfl, rfl⟩, .inr ⟨D', rfl, fun q hq => by
      rw [List.mem_singleton.mp hq]
      exact ⟨_, m', rfl⟩⟩⟩, kp'⟩
    obtain ⟨ds, vd, bd⟩ := FD.binds0 (ps := ["self", "module", "because"]) 2 (by decide) rfl (fun D doc pm an cdv ct us ks hu hk => by
      match us, ks, hu, hk with
      | [u1, u2], [k1], _, _ => exact ⟨_, _, _, _, _, _, rfl, rfl, rfl⟩)
    obtain ⟨mv, kb⟩ := FD.kbinds0 (ps := ["self", "module", "because"]) 2 ["because"] [] (fun vs _ zs => vs ++ zs) (by decide) (fun q hq => nomatch hq) (fun r1 _ r3 => r1.append r3) (fun D doc pm an cdv ct us mv ws hu hm hw => by
      match us, mv, ws, hu, hm, hw with
      | [u1, u2], [], [w1], _, _, _ => rfl)
    exact ⟨⟨f', _, ok_rfa F' B T (RH.kn.up (by decide)) RH.cs (hSk.up (by decide)) (hNx.up (by decide)), ⟨ds, vd, bd⟩, ⟨_, kb⟩, ⟨a', i', kp'⟩⟩⟩
  exact {
    fa := hFa
    ch := hCh
    ih := hIh
    rc := hRc
  }
end Cr
/-! k44: _law_moved -/
namespace Cr
open PySem PySem.Spec PyProof.Rows L2 Evl LiI
abbrev sMv4 : Stmt := topS 33
abbrev nMv4 : List Str := ["_law_pot_here", "_law_registry", "_law_due", "_law_running", "_law_module"]
theorem scMv4 : FnScope nMv4 ["_law_pot_here", "_law_registry", "_law_due"] (defScope sMv4) := ⟨rfl, rfl, rfl, by decide +kernel, rfl, by decide +kernel, by decide +kernel⟩
theorem run_quiet {U : List Str} {e : Str → Str → Bool} {m : Str} {c0 : List Str} (he : ∀ s t, e s t = false) : ∀ n, (runF U e m c0 n).F = [m] ∧ ∀ y, (runF U e m c0 n).k y = if y = m then some c0 else none
  | 0 => ⟨rfl, fun y => rfl⟩
  | n + 1 => by
    obtain ⟨h1, h2⟩ := run_quiet (U := U) (m := m) (c0 := c0) he n
    have z : nxF U e (runF U e m c0 n).F (runF U e m c0 n).C = [] := List.filter_eq_nil_iff.mpr fun s _ => by
      have y : (runF U e m c0 n).C.any (e s) = false := List.any_eq_false.mpr fun t _ => by rw [he s t]; decide
      rw [y]
      simp
    refine ⟨?_, fun y => ?_⟩
    · show (runF U e m c0 n).F ++ nxF U e (runF U e m c0 n).F (runF U e m c0 n).C = [m]
      rw [z, h1]
      rfl
    · show (if y ∈ nxF U e (runF U e m c0 n).F (runF U e m c0 n).C then some (y :: ((runF U e m c0 n).k (parF e (runF U e m c0 n).C y)).getD []) else (runF U e m c0 n).k y) = _
      rw [z, if_neg (fun w => nomatch w)]
      exact h2 y
theorem s_orGt {i : Nat} {b : Int} {p : Addr} {t : TT} {tw te : TS} {D : Ends} {σ : L2.St} {H : Hp} {a : Bool} (h1 : EvT t σ H a) (yes : a = true → ∀ H1, Ex H H1 → tw D σ H1) (hi : σ[i]? = some (some (.ref p))) (hb : 0 < b) (hl : b.natAbs.log2 < 9000) (pot : Pot H p) (k1 : ∀ H1, Drew p H H1 → tw D σ H1) (k2 : a = false → ∀ H1, Drew p H H1 → te D σ H1) :
    tIfS (tOr t (tTest (tOp (rI0 fun i j => .bl (decide (j < i))) (tCall spDraw [] E0 (tCons (tVar i) (tCons (tC (.int b)) tNil))) (tC (.int 0))))) tw te D σ H := by
  refine h1 H (Ex.refl H) _ fun H1 e1 => ?_
  cases a with
  | true => exact yes rfl H1 e1
  | false =>
    have r0 := Drew.of pot e1
    exact ⟨.ref p, hi, p, b, rfl, hb, hl, r0.pot, fun c H2 _ _ r => ⟨c, 0, rfl, rfl, _, rfl, by
      by_cases e : 0 < c
      · rw [decide_eq_true e]
        exact k1 H2 (r0.trans r)
      · rw [decide_eq_false e]
        exact k2 rfl H2 (r0.trans r)⟩⟩
def spMv4 (C CG : Addr) : Sp := fun vs H Q _ => ∃ p x d lb HB A ns lbs R dx, vs = [.ref p, .ref x, .ref d] ∧ Sc44 C CG p x d lb HB H A ns lbs R dx ∧ ∀ R' dx' H', Sc44 C CG p x d lb HB H' A ns lbs R' dx' → Q .non H'
section
variable {P : Program} {w : World} {K : PySem.W.Frag} {mg : Str → Option Value} {base : Heap}
theorem ok_mv4 {f C CG CW : Addr} {fd : FuncData} {k : Nat} (F : Fun K "_law_moved" "_law_moved" sMv4 f fd) (B : Blt mg) (T : RgC K mg C) (h1 : Has P w K mg base k "_law_choice" ["_law_pot_here", "_law_options"] spChoice) (h2 : Has P w K mg base k "_law_draw" ["_law_pot_here", "_law_bound"] spDraw)
    (h3 : HasM P w K mg base CX0 k C "in_state" ["self", "state"] (spRIn C CG)) (h4 : FailP P w K mg base k C CG CW) (h5 : HasM P w K mg base (L2.CX P w) k C "finish" ["self", "module"] (spRFi C CG CW)) : FnG P w K mg base CX0 (k + 1) f fd ["_law_pot_here", "_law_registry", "_law_due"] (spMv4 C CG) := by
  obtain ⟨f1, d1, G1, b1, k1, g1⟩ := h1.ex
  obtain ⟨f2, d2, G2, b2, k2, g2⟩ := h2.ex
  obtain ⟨f3, d3, G3, b3, m3⟩ := h3.ex
  obtain ⟨f4, d4, G4, ⟨ds, vd, bd⟩, _, m4⟩ := h4.ex
  obtain ⟨f5, d5, G5, b5, m5⟩ := h5.ex
  refine okG F scMv4 (fun vs H Q E h => by obtain ⟨_, _, _, _, _, _, _, _, _, _, rfl, _⟩ := h; rfl) (fun cdv A outer s H vs Q E hq hr h => ?_)
  obtain ⟨p, x, d, lb, HB, A', ns, lbs, R, dx, rfl, sc, q⟩ := h
  have hu : (A.deeper (envOfC "_law_moved" (defScope sMv4) s.heap.objs.size f cdv)).units + 1 < cLine := by have := hr.units; omega
  refine ⟨_, pss_cons (ps_set (i := 3) scMv4.nd rfl (.inl rfl) (pe_meth (E := E0) (pv 1) T.cl m3 G3 hr b3 .nil pass0 (pa_cons pe_str pa_nil)))
    (pss_cons (ps_if (PW.pt (pw_or (pt_cmpR (op_eqDt hr.units) (pv 3) (pe_lst pa_nil) (nomark _)) (pw_or1 (pt_cmpR op_gt (callG (E := E0) G2 hq hr (by rfl) g2 k2 b2 .nil pass0 (pa_cons (pv 0) (pa_cons pe_int pa_nil))) pe_int (nomark _))))) (pss_one ps_retN) pss_nil)
    (pss_cons (ps_set (i := 4) scMv4.nd rfl (.inl rfl) (callG (E := E0) G1 hq hr (by rfl) g1 k1 b1 .nil pass0 (pa_cons (pv 0) (pa_cons (pv 3) pa_nil))))
    (pss_one (ps_if (pt_cmpR op_eq (callG (E := E0) G2 hq hr (by rfl) g2 k2 b2 .nil pass0 (pa_cons (pv 0) (pa_cons pe_int pa_nil))) pe_int (nomark _)) (pss_one (ps_expr (pe_meth (E := E0) (pv 1) T.cl m5 G5 hr b5 .nil passL (pa_cons (pv 4) pa_nil))))
      (pss_cons (ps_expr (pe_meth (E := E0) (pv 1) T.cl m4 G4 hr bd vd passL (pa_cons (pv 4) pa_nil)))
      (pss_one (ps_expr (pe_dclear (pe_dget hu (pv 2) (pv 4) (fun _ _ => rfl)))))))))), ?_⟩
  have n8 := sc.n8
  refine q_asgL (el_ins (i := 1) rfl sc.ap.rg (by decide +kernel)) fun l H1 zl e1 hl => ?_
  have sc1 := sc.ex e1
  have lp : l ≠ p := fun e => by
    obtain ⟨i, j, hp, _⟩ := sc.ap.pot
    rw [← e, zl] at hp
    cases hp
  obtain ⟨rn, hrn⟩ : ∃ rn, rn = inR (srtS ns) R "running" := ⟨_, rfl⟩
  rw [← hrn] at hl
  have rnm : ∀ m ∈ rn, m ∈ ns ∧ stM R m = "running" := fun m hm => by
    rw [hrn] at hm
    unfold inR at hm
    rw [List.mem_filter, decide_eq_true_eq] at hm
    exact ⟨(srtS_perm ns).mem_iff.mp hm.1, hm.2⟩
  have lrn : rn.length ≤ 8 := by
    rw [hrn]
    refine Nat.le_trans (ins_len _ _ _) ?_
    rw [(srtS_perm ns).length_eq]
    exact n8
  have end_ : ∀ {H' : Hp}, Drew p H1 H' → (∀ R' dx' H', Sc44 C CG p x d lb HB H' A' ns lbs R' dx' → Q .non H') → Q .non H' := fun {H'} r q => q R dx H' (sc1.drew r)
  show tSeq _ _ _ [some (.ref p), some (.ref x), some (.ref d), some (.ref l), none] H1
  refine s_orGt (i := 0) (et_is (et_eqD (evd_var (i := 3) rfl (.lst hl (dts_map _ PyData.str (fun x => .str x) rn))) (evd_lst evda_nil (by decide)) (strs_okT fun y hy => (name_okT4 (sc.nm y (rnm y hy).1)).1) (by decide +kernel)) (eqv_nilS rn)) (fun _ H2 e2 => q R dx H2 (sc1.ex e2)) rfl (by decide) (by decide +kernel) sc1.ap.pot (fun H2 r2 => q R dx H2 (sc1.drew r2)) (fun hne H2 r2 => ?_)
  have hpos : 0 < rn.length := List.length_pos_iff.mpr fun e => by rw [e] at hne; cases hne
  have sc2 := sc1.drew r2
  change tSeq (tAsg (tCall spChoice [] E0 (tCons (tVar 0) (tCons (tVar 3) tNil))) (gName 4)) _ _ [some (.ref p), some (.ref x), some (.ref d), some (.ref l), none] H2
  refine q_asgAny ⟨.ref p, rfl, .ref l, rfl, p, sc2.ap.pot, .inl ⟨l, _, rfl, lp, r2.at lp hl, by rw [List.length_map]; omega, by rw [List.length_map]; omega, fun v H3 hv r3 => ?_⟩⟩
  obtain ⟨md, hmd, rfl⟩ := List.mem_map.mp hv
  obtain ⟨mN, mR⟩ := rnm md hmd
  have sc3 := sc2.drew r3
  have mS := inS4 mN
  show tIfS _ _ _ _ [some (.ref p), some (.ref x), some (.ref d), some (.ref l), some (.str md)] H3
  refine ⟨.ref p, rfl, p, 2, rfl, by decide, by decide +kernel, sc3.ap.pot, fun c H4 _ _ r4 => ⟨rfl, _, rfl, ?_⟩⟩
  have sc4 := sc3.drew r4
  by_cases ec : V.int c = V.int 0
  · rw [decide_eq_true ec]
    dsimp only
    rw [if_pos rfl]
    refine ⟨.ref x, rfl, x, A'.dx, _, rfl, sc4.ap.rg.ob, rfl, .str md, rfl, x, md, HB, A', srtS ns, R, rfl, sc4.ap.rg, mS, fun _ R' l' H5 zl' nl' to ht fin => ?_, fun ne => absurd mR ne⟩
    exact q R' dx H5 (sc4.reg to ⟨fun z hz => sc.qt.ga z ((fin.ga z).mp hz).1, fun y cc hy => sc.qt.ch y cc (by unfold chR at hy ⊢; rw [fin.ch] at hy; exact hy)⟩ fun y => by unfold exR; rw [fin.ex])
  · rw [decide_eq_false ec]
    dsimp only
    rw [if_neg (by decide)]
    have quiet : ∀ s t, eR R s t = false := fun s t => decide_eq_false (sc.qt.ga ⟨s, t⟩)
    obtain ⟨fF, fk⟩ := run_quiet (U := srtS ns) (m := md) (c0 := cause0 R md none) quiet (srtS ns).length
    have fF : (fallR (srtS ns) R md none).F = [md] := fF
    have fk : ∀ y, (fallR (srtS ns) R md none).k y = if y = md then some (cause0 R md none) else none := fk
    refine q_dropAny ⟨.ref x, rfl, x, A'.dx, _, rfl, sc4.ap.rg.ob, rfl, .str md, rfl, x, md, none, HB, A', srtS ns, R, rfl, sc4.ap.rg, mS, (fun b e => nomatch e), (fun y c hc => Nat.le_trans (sc.qt.ch y c hc) (by decide)), (fun b e => nomatch e), fun _ _ R' l' H5 nl' nl2 to ht fal => ?_, fun ne => absurd mR ne, fun b e => nomatch e⟩
    rw [fF] at fal
    have qt' : Qt44 R' := ⟨fun z hz => sc.qt.ga z ((fal.ga z).mp hz).1, fun y cc hy => by
      rw [fal.ch y, fk y] at hy
      by_cases e : y = md
      · rw [if_pos (List.mem_singleton.mpr e), if_pos e] at hy
        cases hy
        exact Nat.le_refl 1
      · rw [if_neg (fun z => e (List.mem_singleton.mp z))] at hy
        exact sc.qt.ch y cc hy⟩
    have em : exR R' md = [] := by rw [fal.ex md, if_pos (List.mem_singleton.mpr rfl)]
    have eo : ∀ y ∈ ns, y ≠ md → exR R' y = exR R y := fun y _ ne => by rw [fal.ex y, if_neg (fun z => ne (List.mem_singleton.mp z))]
    have ap5 := sc4.ap.reg to
    obtain ⟨b, e, hg, mem, he, hv⟩ := due_get sc.kd mN
    show tDrop _ _ [some (.ref p), some (.ref x), some (.ref d), some (.ref l), some (.str md)] H5
    refine ev_dgRd (x := md) (v := .ref b) (ev_var (i := 2) rfl) (ev_var (i := 4) rfl) (.inl ap5.du.hD) hv H5 (Ex.refl H5) _ fun H6 e6 => ?_
    have ap6 := ap5.ex e6
    have hb6 := ap6.du.hI _ mem
    refine ⟨.inr (.inr (.inl ⟨rfl, .inl ⟨_, hb6⟩⟩)), b, _, rfl, rfl, hb6, ?_⟩
    exact q R' _ _ (sc.clr hg em eo ap6 qt')
end
end Cr
/-! k44: the law -/
namespace Cr
open PySem PySem.Spec PyProof.Rows L2 Evl LiI
abbrev sLaw : Stmt := topS 34
abbrev nLaw : List Str := ["_law_script", "_law_k", "_law_pot_here", "_law_names", "_law_labels", "_law_registry", "_law_due", "_law_turn", "_law_module"]
theorem scLaw : FnScope nLaw ["_law_script"] (defScope sLaw) := ⟨rfl, rfl, rfl, by decide +kernel, rfl, by decide +kernel, by decide +kernel⟩
def spLaw (K : PySem.W.Frag) : Sp := fun vs H Q _ => ∃ (a : Addr) (ns : List Int), vs = [.ref a] ∧ SqL K H a (ns.map V.int) ∧ ns.length ≤ 63 ∧ ∀ H', Q (.bl true) H'
/-- what is true of the dict alone -/
structure Du44 (ns lbs : List Str) (dx : XRows) : Prop where
  kd : dx.map (·.1) = ns
  lab : ∀ r ∈ dx, ∀ q ∈ r.2.2, q.1 ∈ lbs ∧ q.2.natAbs ≤ 10 ^ 30
  xi : ∀ r ∈ dx, (r.2.2.map (·.1)).Nodup
theorem Du44.clr {ns lbs : List Str} {dx : XRows} {m : Str} {b : Addr} {e : Ints} (h : Du44 ns lbs dx) (kn : (dx.map (·.1)).Nodup) (hg : getA dx m = some (b, e)) : Du44 ns lbs (putA dx m (b, [])) := by
  refine ⟨(putX_ad (e' := []) kn hg).2.trans h.kd, fun r hr q hq => ?_, fun r hr => ?_⟩
  · rcases mem_putA hr with rfl | ⟨hr, _⟩
    · exact nomatch hq
    · exact h.lab r hr q hq
  · rcases mem_putA hr with rfl | ⟨hr, _⟩
    · exact List.nodup_nil
    · exact h.xi r hr
section
variable {P : Program} {w : World} {K : PySem.W.Frag} {mg : Str → Option Value} {base : Heap}
theorem ok_law {f C CG : Addr} {fd : FuncData} {k : Nat} (F : Fun K "law" "law" sLaw f fd) (B : Blt mg) (T : RgC K mg C) (h1 : Has P w K mg base k "_law_pot" ["_law_script", "_law_index"] (spPot K)) (h2 : Has P w K mg base k "_law_draw" ["_law_pot_here", "_law_bound"] spDraw)
    (h3 : Has P w K mg base k "_law_words" ["_law_pot_here", "_law_number"] spWords) (h4 : Has P w K mg base k "_law_started" ["_law_pot_here", "_law_names"] (spStd C CG)) (h5 : Has P w K mg base k "_law_export_right" ["_law_pot_here", "_law_registry", "_law_due", "_law_labels"] (spEr4 C CG))
    (h6 : Has P w K mg base k "_law_stands" ["_law_registry", "_law_due", "_law_labels"] (spSd4 C CG)) (h7 : Has P w K mg base k "_law_moved" ["_law_pot_here", "_law_registry", "_law_due"] (spMv4 C CG)) (h8 : UnlP P w K mg base k C CG) : FnG P w K mg base CX0 (k + 1) f fd ["_law_script"] (spLaw K) := by
  obtain ⟨f1, d1, G1, b1, k1, g1⟩ := h1.ex
  obtain ⟨f2, d2, G2, b2, k2, g2⟩ := h2.ex
  obtain ⟨f3, d3, G3, b3, k3, g3⟩ := h3.ex
  obtain ⟨f4, d4, G4, b4, k4, g4⟩ := h4.ex
  obtain ⟨f5, d5, G5, b5, k5, g5⟩ := h5.ex
  obtain ⟨f6, d6, G6, b6, k6, g6⟩ := h6.ex
  obtain ⟨f7, d7, G7, b7, k7, g7⟩ := h7.ex
  obtain ⟨f8, d8, aT, kt, G8, ⟨ds, vd, bd⟩, _, m8⟩ := h8.ex
  refine okG F scLaw (fun vs H Q E h => by obtain ⟨_, _, rfl, _⟩ := h; rfl) (fun cdv A outer s H vs Q E hq hr h => ?_)
  obtain ⟨a, is, rfl, hS, hl, q⟩ := h
  have hu : (A.deeper (envOfC "law" (defScope sLaw) s.heap.objs.size f cdv)).units + 1 < cLine := by have := hr.units; omega
  refine ⟨_, pss_cons (ps_for PassesOwn.never rfl (pi_range1 (by rfl) B.range (pa_cons (pe_callB (call_max2 rfl) (by rfl) B.max bMax (pa_cons pe_int (pa_cons (pe_callB (call_min2 rfl) (by rfl) B.min bMin (pa_cons (pe_callB call_len_seq (by rfl) B.len bLen (pa_cons (pv 0) pa_nil)) (pa_cons pe_int pa_nil))) pa_nil))) pa_nil)) (pg_name (i := 1) scLaw.nd rfl (.inl rfl))
      (pss_cons (ps_set (i := 2) scLaw.nd rfl (.inl rfl) (callG (E := E0) G1 hq hr (by rfl) g1 k1 b1 .nil pass0 (pa_cons (pv 0) (pa_cons (pv 1) pa_nil))))
      (pss_cons (ps_par (i := 3) (j := 4) (by rfl) scLaw.nd rfl rfl (by decide) rfl rfl (pa_cons (callG (E := E0) G3 hq hr (by rfl) g3 k3 b3 .nil pass0 (pa_cons (pv 2) (pa_cons (pe_op op_add pe_int (callG (E := E0) G2 hq hr (by rfl) g2 k2 b2 .nil pass0 (pa_cons (pv 2) (pa_cons pe_int pa_nil)))) pa_nil)))
        (pa_cons (callG (E := E0) G3 hq hr (by rfl) g3 k3 b3 .nil pass0 (pa_cons (pv 2) (pa_cons (pe_op op_add pe_int (callG (E := E0) G2 hq hr (by rfl) g2 k2 b2 .nil pass0 (pa_cons (pv 2) (pa_cons pe_int pa_nil)))) pa_nil))) pa_nil)) (by rfl))
      (pss_cons (ps_asg (callG (E := E0) G4 hq hr (by rfl) g4 k4 b4 .nil pass0 (pa_cons (pv 2) (pa_cons (pv 3) pa_nil))) (pg_tup rfl (pgs_cons (pg_name (i := 5) scLaw.nd rfl (.inl rfl)) (pgs_cons (pg_name (i := 6) scLaw.nd rfl (.inl rfl)) pgs_nil))))
      (pss_cut (ps_for PassesOwn.never rfl (pi_range1 (by rfl) B.range (pa_cons (callG (E := E0) G2 hq hr (by rfl) g2 k2 b2 .nil pass0 (pa_cons (pv 2) (pa_cons pe_int pa_nil))) pa_nil)) (pg_name (i := 7) scLaw.nd rfl (.inl rfl))
        (pss_cons (ps_if (PW.pt (pw_or (pt_not (pt_val (callG (E := E0) G5 hq hr (by rfl) g5 k5 b5 .nil pass0 (pa_cons (pv 2) (pa_cons (pv 5) (pa_cons (pv 6) (pa_cons (pv 4) pa_nil))))))) (pw_or1 (pt_not (pt_val (callG (E := E0) G6 hq hr (by rfl) g6 k6 b6 .nil pass0 (pa_cons (pv 5) (pa_cons (pv 6) (pa_cons (pv 4) pa_nil))))))))) (pss_one (ps_ret pe_bl)) pss_nil)
        (pss_one (ps_expr (callG (E := E0) G7 hq hr (by rfl) g7 k7 b7 .nil pass0 (pa_cons (pv 2) (pa_cons (pv 5) (pa_cons (pv 6) pa_nil))))))))
      (pss_cut (ps_for PassesOwn.never rfl (pi_list (pe_meth0 (E := E0) (pv 5) T.cl m8 G8 hr bd vd pass0)) (pg_name (i := 8) scLaw.nd rfl (.inl rfl))
        (pss_one (ps_expr (pe_dclear (pe_dget hu (pv 6) (pv 8) (fun _ _ => rfl))))))
      (pss_one (ps_if (pt_not (pt_val (callG (E := E0) G6 hq hr (by rfl) g6 k6 b6 .nil pass0 (pa_cons (pv 5) (pa_cons (pv 6) (pa_cons (pv 4) pa_nil)))))) (pss_one (ps_ret pe_bl)) pss_nil))))))))
    (pss_one (ps_ret pe_bl)), ?_⟩
  have cnt : ∃ N : Int, EvA (tCons (tCB (fun xs H Q => ∃ i j, xs = [V.int i, V.int j] ∧ Q (.int (if j > i then j else i)) H) (tCons (tC (.int 1)) (tCons (tCB (fun xs H Q => ∃ i j, xs = [V.int i, V.int j] ∧ Q (.int (if j < i then j else i)) H) (tCons (tCB (fun xs H Q => ∃ p ys, xs = [V.ref p] ∧ (SqL K H p ys ∨ SqT K H p ys) ∧ Q (.int ys.length) H) (tCons (tVar 0) tNil)) (tCons (tC (.int 5)) tNil))) tNil))) tNil) (L2.start nLaw [.ref a]) H [.int N] ∧ 0 ≤ N ∧ N ≤ 100 := by
    refine ⟨_, ea_cons (ev_cb (ea_cons ev_c (ea_cons (ev_cb (ea_cons (ev_cb (ea_cons (ev_var rfl) ea_nil) (rc_lenL hS)) (ea_cons ev_c ea_nil)) (fun H3 _ Q q => ⟨_, _, rfl, q H3 (Ex.refl H3)⟩)) ea_nil)) (fun H3 _ Q q => ⟨_, _, rfl, q H3 (Ex.refl H3)⟩)) ea_nil, ?_, ?_⟩
    · split <;> omega
    · split
      · split <;> omega
      · omega
  obtain ⟨N, hN, n0, n1⟩ := cnt
  refine q_forR1 hN ⟨n0, by omega⟩ (fun i σ' H' => (∃ y1 y2 y3 y4 y5 y6 y7 y8, σ' = [some (.ref a), y1, y2, y3, y4, y5, y6, y7, y8]) ∧ Ex H H') (fun H1 e1 => ⟨⟨none, none, none, none, none, none, none, none, rfl⟩, e1⟩) ?_ ?_
  rotate_left
  · rintro σ' Ht ⟨⟨y1, y2, y3, y4, y5, y6, y7, y8, rfl⟩, _⟩
    exact s_ret (v := .bl true) ev_c fun H1 e1 => q H1
  rintro i σ' Ht hi ⟨⟨y1, y2, y3, y4, y5, y6, y7, y8, rfl⟩, et⟩
  refine q_asgAny ⟨.ref a, rfl, .int (i : Int), rfl, a, is, i, rfl, ex_l et hS, by omega, fun p H1 zp e1 pot => ?_⟩
  show tSeq _ _ _ [some (.ref a), some (.int (i : Int)), some (.ref p), y3, y4, y5, y6, y7, y8] H1
  -- the names and the labels
  refine q_par4 ?_
  refine ⟨.ref p, rfl, .ref p, rfl, p, 8, rfl, by decide, by decide +kernel, pot, fun d H2 d0 d1 r2 => ?_⟩
  refine ⟨1, d, rfl, rfl, p, (1 + d).toNat, by show [V.ref p, V.int (1 + d)] = _; rw [Int.toNat_of_nonneg (by omega)], r2.pot, by omega, fun l ns H3 zl hl ln nd nm r3 => ?_⟩
  have lp : l ≠ p := fun z => by
    obtain ⟨i', j', hp, _⟩ := r2.pot
    rw [z, hp] at zl
    cases zl
  refine ⟨.ref p, rfl, .ref p, rfl, p, 4, rfl, by decide, by decide +kernel, r3.pot, fun c H4 c0 c1 r4 => ?_⟩
  refine ⟨1, c, rfl, rfl, p, (1 + c).toNat, by show [V.ref p, V.int (1 + c)] = _; rw [Int.toNat_of_nonneg (by omega)], r4.pot, by omega, fun lb lbs H5 zlb hlb llb ndl nml r5 => ⟨_, _, rfl, ?_⟩⟩
  have lbp : lb ≠ p := fun z => by
    obtain ⟨i', j', hp, _⟩ := r4.pot
    rw [z, hp] at zlb
    cases zlb
  show tSeq _ _ _ [some (.ref a), some (.int (i : Int)), some (.ref p), some (.ref l), some (.ref lb), y5, y6, y7, y8] H5
  have hl5 := r5.at lp (r4.at lp hl)
  -- the registry and the dict
  refine ⟨.ref p, rfl, .ref l, rfl, p, l, ns, rfl, r5.pot, hl5, nm, nd, by omega, by omega, fun t x dd A' R dx H6 ht ap kd nil ex0 qt r6 => ?_⟩
  refine ⟨t, _, rfl, st_of ht, rfl, .ref x, _, rfl, .ref dd, _, rfl, rfl, ?_⟩
  have sc6 : Sc44 C CG p x dd lb (wo p H5) H6 A' ns lbs R dx := {
    ap := ap
    qt := qt
    kd := kd
    rel := fun m hm => by
      obtain ⟨b, e, hg, mem, he, _⟩ := due_get kd hm
      rw [ex0 m, he]
      exact (nil _ mem).symm
    lab := fun r hr z hz => by rw [nil r hr] at hz; cases hz
    xi := fun r hr => by rw [nil r hr]; exact List.nodup_nil
    nm := nm
    lnm := nml
    l1 := by omega
    l4 := by omega
    n1 := by omega
    n8 := by omega
    hlb := by rw [wo_ne lbp]; exact hlb }
  have eHt : Ex Ht (wo p H5) := fun c' o hc => by
    have cp : c' ≠ p := fun z => by rw [z, zp] at hc; cases hc
    rw [wo_ne cp]
    exact r5.at cp (r4.at cp (r3.at cp (r2.at cp (e1 _ _ hc))))
  clear ap kd nil ex0 qt
  -- the turns
  refine q_cut (M := fun σ H' => ∃ y7 R1 dx1, σ = [some (.ref a), some (.int (i : Int)), some (.ref p), some (.ref l), some (.ref lb), some (.ref x), some (.ref dd), y7, y8] ∧ Sc44 C CG p x dd lb (wo p H5) H' A' ns lbs R1 dx1) ?_ ?_
  · refine ⟨.ref p, rfl, p, 31, rfl, by decide, by decide +kernel, sc6.ap.pot, fun cnt H7 a7 c7 r7 => ?_⟩
    refine ⟨cnt, rfl, by omega, by omega, for_range (lo := 0) (n := cnt.toNat) (fun j σ' H' => ∃ y7 R1 dx1, σ' = [some (.ref a), some (.int (i : Int)), some (.ref p), some (.ref l), some (.ref lb), some (.ref x), some (.ref dd), y7, y8] ∧ Sc44 C CG p x dd lb (wo p H5) H' A' ns lbs R1 dx1) ⟨_, R, dx, rfl, sc6.drew r7⟩ ?_ ?_⟩
    · rintro j σ' H8 hj ⟨y7', R1, dx1, rfl, sc8⟩
      show tSeq _ _ _ [some (.ref a), some (.int (i : Int)), some (.ref p), some (.ref l), some (.ref lb), some (.ref x), some (.ref dd), some (.int (0 + (j : Int))), y8] H8
      refine ⟨.ref p, rfl, .ref x, rfl, .ref dd, rfl, .ref lb, rfl, p, x, dd, lb, wo p H5, A', ns, lbs, R1, dx1, rfl, sc8, lbp, fun R2 dx2 H9 sc9 => ⟨true, rfl, ?_⟩⟩
      show (if (!true) = true then _ else _)
      rw [if_neg (by decide)]
      refine ⟨.ref x, rfl, .ref dd, rfl, .ref lb, rfl, p, x, dd, lb, wo p H5, A', ns, lbs, R2, dx2, rfl, sc9, fun Ha ea => ⟨true, rfl, ?_⟩⟩
      show (if (!true) = true then _ else _)
      rw [if_neg (by decide)]
      exact ⟨.ref p, rfl, .ref x, rfl, .ref dd, rfl, p, x, dd, lb, wo p H5, A', ns, lbs, R2, dx2, rfl, sc9.ex ea, fun R3 dx3 Hb scb => ⟨_, R3, dx3, rfl, scb⟩⟩
    · rintro σ' H8 ⟨y7', R1, dx1, rfl, sc8⟩
      exact ⟨y7', R1, dx1, rfl, sc8⟩
  rintro σ H7 ⟨y7', R1, dx1, rfl, sc7⟩
  -- all that nobody uses is unloaded
  refine q_cut (M := fun σ H' => ∃ y8 R1 dx1, σ = [some (.ref a), some (.int (i : Int)), some (.ref p), some (.ref l), some (.ref lb), some (.ref x), some (.ref dd), y7', y8] ∧ Sc44 C CG p x dd lb (wo p H5) H' A' ns lbs R1 dx1) ?_ ?_
  · refine ⟨.ref x, rfl, x, A'.dx, _, rfl, sc7.ap.rg.ob, rfl, x, aT, [], wo p H5, A', srtS ns, R1, rfl, sc7.ap.rg, kt.sq, (fun n hn => nomatch hn), by decide, fun R2 cl H8 zcl ncl to hcl ul => ?_⟩
    obtain ⟨G, hG⟩ : ∃ G, G = ulR (srtS ns) R1 [] := ⟨_, rfl⟩
    rw [← hG] at hcl ul
    have GU : ∀ m ∈ G, m ∈ ns := fun m hm => by
      rw [hG] at hm
      exact (srtS_perm ns).mem_iff.mp (ins_U (List.mem_filter.mp hm).1)
    have ap8 := sc7.ap.reg to
    have nclD : cl ∉ ownD dd dx1 := (sc7.ap.free zcl).2.2
    refine ⟨cl, rfl, ⟨_, sq_of hcl⟩, for_list (xs := G.map V.str) (fun j σ' H' => ∃ y8 dx', σ' = [some (.ref a), some (.int (i : Int)), some (.ref p), some (.ref l), some (.ref lb), some (.ref x), some (.ref dd), y7', y8] ∧ Ap44 C CG p x dd (wo p H5) H' A' (srtS ns) R2 dx' ∧ Du44 ns lbs dx' ∧ (∀ m ∈ ns, exD dx' m = if m ∈ G.take j then [] else exD dx1 m) ∧ H' cl = some (.lst (G.map V.str)) ∧ cl ∉ ownD dd dx')
      ⟨_, dx1, rfl, ap8, ⟨sc7.kd, sc7.lab, sc7.xi⟩, (fun m _ => by rw [List.take_zero, if_neg (fun z => nomatch z)]), hcl, nclD⟩ (fun j σ' H' _ hP => ?_) (fun j v σ' H9 hv hP => ?_) (fun σ' H9 hP => ?_)⟩
    · obtain ⟨_, _, _, _, _, _, h, _⟩ := hP
      exact sq_of h
    · obtain ⟨y8', dx', rfl, ap9, du9, ex9, hc9, nc9⟩ := hP
      have hil : j < G.length := by
        have := (List.getElem?_eq_some_iff.mp hv).1
        rw [List.length_map] at this
        exact this
      rw [List.getElem?_map, List.getElem?_eq_getElem hil] at hv
      cases hv
      have htk : G.take (j + 1) = G.take j ++ [G[j]] := List.take_succ_eq_append_getElem hil
      have hmem := List.getElem_mem hil
      rw [htk]
      generalize G[j] = m at hmem
      have mN := GU m hmem
      obtain ⟨b, e, hg, mem, he, hvb⟩ := due_get du9.kd mN
      show tDrop _ _ [some (.ref a), some (.int (i : Int)), some (.ref p), some (.ref l), some (.ref lb), some (.ref x), some (.ref dd), y7', some (.str m)] H9
      refine ev_dgRd (x := m) (v := .ref b) (ev_var (i := 6) rfl) (ev_var (i := 8) rfl) (.inl ap9.du.hD) hvb H9 (Ex.refl H9) _ fun Ha ea => ?_
      have apa := ap9.ex ea
      have hba := apa.du.hI _ mem
      refine ⟨.inr (.inr (.inl ⟨rfl, .inl ⟨_, hba⟩⟩)), b, _, rfl, rfl, hba, ?_⟩
      obtain ⟨du', own, bm⟩ := apa.du.setI (e' := []) hg
      have cb : cl ≠ b := fun z => nc9 (by rw [z]; exact bm)
      refine ⟨_, putA dx' m (b, []), rfl, apa.due (fun c o nc ho => by rw [upd_ne (fun z => nc (by rw [z]; exact bm))]; exact ho) du' (fun c hc => .inl (by rw [own] at hc; exact hc)), du9.clr apa.du.kn hg, fun y hy => ?_, by rw [upd_ne cb]; exact ea _ _ hc9, by rw [own]; exact nc9⟩
      rw [exD_put, ex9 y hy]
      by_cases ey : y = m
      · rw [if_pos ey, if_pos (List.mem_append_right _ (List.mem_singleton.mpr ey))]
      · rw [if_neg ey]
        by_cases hm2 : y ∈ G.take j
        · rw [if_pos hm2, if_pos (List.mem_append_left _ hm2)]
        · rw [if_neg hm2, if_neg fun z => (List.mem_append.mp z).elim hm2 fun z => ey (List.mem_singleton.mp z)]
    · obtain ⟨y8', dx', rfl, ap9, du9, ex9, _, _⟩ := hP
      rw [List.length_map, List.take_length] at ex9
      refine ⟨y8', R2, dx', rfl, ⟨ap9, ⟨fun z hz => sc7.qt.ga z (by rw [← ul.ga]; exact hz), fun y cc hy => sc7.qt.ch y cc (by unfold chR at hy ⊢; rw [← ul.ch]; exact hy)⟩, du9.kd, fun m hm => ?_, du9.lab, du9.xi, sc7.nm, sc7.lnm, sc7.l1, sc7.l4, sc7.n1, sc7.n8, sc7.hlb⟩⟩
      rw [ul.ex m, ex9 m hm]
      by_cases hm2 : m ∈ G
      · rw [if_pos hm2, if_pos hm2]
      · rw [if_neg hm2, if_neg hm2]
        exact sc7.rel m hm
  rintro σ H8 ⟨y8', R2, dx2, rfl, sc8⟩
  refine ⟨.ref x, rfl, .ref dd, rfl, .ref lb, rfl, p, x, dd, lb, wo p H5, A', ns, lbs, R2, dx2, rfl, sc8, fun Ha ea => ⟨true, rfl, ?_⟩⟩
  show (if (!true) = true then _ else _)
  rw [if_neg (by decide)]
  exact ⟨⟨_, _, _, _, _, _, _, _, rfl⟩, et.trans (eHt.trans (sc8.ex ea).ap.rg.bx)⟩
end
end Cr
/-! a lambda handed to a def that tries it: wishes at the slots; heaps but their tables -/
namespace Cr
open PySem PySem.Spec PyProof.Rows L2 Evl
/-! ### heaps without their tables -/
def NoT (H : Hp) : Prop := ∀ a ps, H a ≠ some (.tbl ps)
theorem NoT.ex {H : Hp} (n : NoT H) {H1 H2 : Hp} (e : LamX.ExtN H1 H2) (h : Ex H H1) : Ex H H2 := fun a o z => e a o (h a o z) fun ps q => n a ps (by rw [← q]; exact z)
/-! ### the callee calls the lambda, what is raised wished for at its slots -/
end Cr
/-! the law's call where defs of the text make code objects, and nothing is shown around -/
/-! k44: what the top has left, gathered -/
namespace Cr
open PySem PySem.Spec PyProof.Rows L2 Evl
theorem all_mk {P : Program} {w : World} {K : PySem.W.Frag} {mg : Str → Option Value} {h : Heap} {fa : Addr} {C CG CNm CW aT : Addr} {tL tM : Tok} {CI CMo CL : Addr} (X : K.In h) (G : h.Ns mainGlobals mg) (hfa : mg "law" = some (.ref fa)) (B : Blt mg)
    (v1 : PySem.W.nsIn K mainGlobals "LONGEST_NAME" = some (some (.int 8 tL))) (v8 : PySem.W.nsIn K mainGlobals "MOST_MODULES" = some (some (.int 40 tM)))
    (c0 : PySem.W.nsIn K mainGlobals "InvalidName" = some (some (.ref CNm))) (e0 : ErrK P K CNm xbV "InvalidName.__init__" "value" sIInvalidName)
    (c2 : PySem.W.nsIn K mainGlobals "WrongState" = some (some (.ref CW))) (e2 : ErrK P K CW xbR "WrongState.__init__" "module" sIWrongState) (s2 : PySem.W.findIn K (.ref CW) "found" = some none)
    (cG : PySem.W.nsIn K mainGlobals "Needs" = some (some (.ref CG))) (kG : Cls K CG) (mG : PySem.W.makesIn K CG = true) (pG : PySem.W.keepIn K (.ref CG) = true) (nN : NoAttr K CG "needed")
    (cR : PySem.W.nsIn K mainGlobals "Registry" = some (some (.ref C))) (kR : Cls K C) (mR : PySem.W.makesIn K C = true) (pR : PySem.W.keepIn K (.ref C) = true) (n1 : NoAttr K C "states") (n2 : NoAttr K C "exported") (n3 : NoAttr K C "chains") (n4 : NoAttr K C "held") (n5 : NoAttr K C "graph") (n6 : NoAttr K C "graph_ever") (n7 : NoAttr K C "accesses")
    (dName : DefAt K "is_name" sIsName) (dBW : DefAt K "bare_word" sBareW)
    (dInt : DefAt K "is_integer" sIsInteger)
    (dCop : DefAt K "copied" sCopied) (dChk : DefAt K "check_name" sCheckN) (dCM : DefAt K "check_modules" sChkMo)
    (mI : MethAt K CG "__init__" "Needs.__init__" sNInit) (mT : MethAt K CG "targets" "Needs.targets" sNTarg) (mN : MethAt K CG "is_need" "Needs.is_need" sNIs) (mRe : MethAt K CG "record" "Needs.record" sNRec) (mDA : MethAt K CG "delete_all" "Needs.delete_all" sNDelA)
    
    (mSh : MethAt K CG "shortest_paths" "Needs.shortest_paths" sNSh) (mCl : MethAt K CG "closure" "Needs.closure" sNClo) (mDe : MethAt K CG "depends" "Needs.depends" sNDep) (mPa : MethAt K CG "pairs" "Needs.pairs" sNPairs) (mCo : MethAt K CG "clone" "Needs.clone" sNClone)
    (r0 : MethAt K C "__init__" "Registry.__init__" sRNew) (sm : SmK K C aT) (t5 : KTup K aT (states5.map V.str)) (r1 : MethAt K C "known" "Registry.known" sRKn) (r2 : MethAt K C "check_state" "Registry.check_state" sRCs)
    (r3 : MethAt K C "state_of" "Registry.state_of" sRSo)
    (r4 : MethAt K C "in_state" "Registry.in_state" sRIn) 
    (r5 : MethAt K C "check_request" "Registry.check_request" sRCr) (r6 : MethAt K C "request" "Registry.request" sRRq)
    
    (r9 : MethAt K C "export" "Registry.export" sRXp)
    (rA : MethAt K C "exports" "Registry.exports" sREx)
    (rB : MethAt K C "is_complete" "Registry.is_complete" sRIc) (rC : MethAt K C "finish" "Registry.finish" sRFi)
    (rE : MethAt K C "needs" "Registry.needs" sRNe)
    (dPot : DefAt K "_law_pot" sPot) (dDraw : DefAt K "_law_draw" sDraw) (dPick : DefAt K "_law_choice" sChoice) (dWord : DefAt K "_law_word" sWord1) (dWords : DefAt K "_law_words" sWords1) (fSr : MethAt K CG "sources" "Needs.sources" sNSrc) (fSk : MethAt K C "sink" "Registry.sink" sRSk) (fNx : MethAt K C "next_round" "Registry.next_round" sRNx) (fFa : MethKwB K C "fail" "Registry.fail" sRFa) (fCh : MethAt K C "chain" "Registry.chain" sRCh) (fIh : MethAt K C "is_held" "Registry.is_held" sRIh)
    (fRc : MethAt K C "recorded" "Registry.recorded" sRRc) (rVo : MethAt K C "value_of" "Registry.value_of" sRVo) (rCk : MethAt K C "check_kept" "Registry.check_kept" sRCk) (rUl : MethKwK K C "unload" "Registry.unload" sRUl)
    (dStd : DefAt K "_law_started" sStd) (dTo : DefAt K "_law_told" sTo4) (dLb : DefAt K "_law_is_label" sIsLb) (dEr : DefAt K "_law_export_right" sEr4) (dSd : DefAt K "_law_stands" sSd4) (dMv : DefAt K "_law_moved" sMv4)
    (cI : PySem.W.nsIn K mainGlobals "InvalidNumber" = some (some (.ref CI))) (eN : PySem.W.excIn K CI [.type "ValueError", .type "Exception", .type "BaseException", .type "object"] "ValueError.__new__" = true) (eK : PySem.W.keepIn K (.ref CI) = true) (eB : PySem.W.subIn K (.ref CI) (.type "BaseException") = some true) (eT : PySem.W.typeIn K (.ref CI) = some (.type "type"))
    (cMo : PySem.W.nsIn K mainGlobals "InvalidModules" = some (some (.ref CMo))) (cLe : PySem.W.nsIn K mainGlobals "LoaderError" = some (some (.ref CL))) (ecW : ExcC K CW) (ecN : ExcC K CNm) (ecI : ExcC K CI) (wm : PySem.W.findIn K (.ref CW) "module" = some none) (nv : PySem.W.findIn K (.ref CNm) "value" = some none)
    (xWW : PySem.W.exmOne K (.ref CW) (.ref CW) = some true) (xNW : PySem.W.exmOne K (.ref CNm) (.ref CW) = some false) (xNN : PySem.W.exmOne K (.ref CNm) (.ref CNm) = some true) (xIW : PySem.W.exmOne K (.ref CI) (.ref CW) = some false) (xIN : PySem.W.exmOne K (.ref CI) (.ref CNm) = some false) (xII : PySem.W.exmOne K (.ref CI) (.ref CI) = some true)
    (wR : PySem.W.kitOne K (.ref CW) (.type "RuntimeError") = some true) (nM : PySem.W.kitOne K (.ref CNm) (.ref CMo) = some false) (nI : PySem.W.kitOne K (.ref CNm) (.ref CI) = some false) (nL : PySem.W.kitOne K (.ref CNm) (.ref CL) = some true) (nV : PySem.W.kitOne K (.ref CNm) (.type "ValueError") = some true)
    (iL : PySem.W.kitOne K (.ref CI) (.ref CL) = some true) (iV : PySem.W.kitOne K (.ref CI) (.type "ValueError") = some true) (iM : PySem.W.kitOne K (.ref CI) (.ref CMo) = some false) (dLaw : DefAt K "law" sLaw) :
    ∃ fd : FuncData, (∀ (s : Shared) (v : Value), BindsTo s fd ⟨[v], []⟩ [("_law_script", v)]) ∧ ∀ base : Heap, K.In base → base.Ns mainGlobals mg → FnG P w K mg base CX0 11 fa fd ["_law_script"] (spLaw K) := by
  obtain ⟨fL, od, an, sl, oc, kV, dc, pm, cd, ct, aL, lL, cL, kL⟩ := dLaw
  have el := hfa.symm.trans (PySem.W.mg_of X G aL)
  cases el
  have FL := fun_mk (st := sLaw) lL cL kL
  refine ⟨PySem.W.fnOf "law" "law" (defArgs sLaw) (defBody sLaw) (defScope sLaw) .none kV dc pm an cd ct, fun s v => .of_eq rfl, fun base _ _ => ?_⟩
  have RH := rg_mk (P := P) (w := w) (CNo := C) (CM := C) X G B v1 v8 c0 e0 
    c2 e2 s2 
    cG kG mG pG nN cR kR mR pR n1 n2 n3 n4 n5 n6 n7 dName dBW 
    dInt 
    dCop dChk dCM mI mT mN mRe mDA 
    mSh mCl mDe mPa mCo r0 sm t5 r1 r2 
    r3 
    r4 r5 r6 
    r9 
    rA rB rC 
    rE 

    base
  have lPot : Has P w K mg base 1 "_law_pot" ["_law_script", "_law_index"] (spPot K) := has_mk X G dPot (fun _ _ _ _ _ _ us hl => match us, hl with | [_, _], _ => rfl) fun f fd F => ok_pot F B
  have lDraw : Has P w K mg base 1 "_law_draw" ["_law_pot_here", "_law_bound"] spDraw := has_mk X G dDraw (fun _ _ _ _ _ _ us hl => match us, hl with | [_, _], _ => rfl) fun f fd F => ok_draw F B
  have lPick : Has P w K mg base 2 "_law_choice" ["_law_pot_here", "_law_options"] spChoice := has_mk X G dPick (fun _ _ _ _ _ _ us hl => match us, hl with | [_, _], _ => rfl) fun f fd F => ok_choice F B lDraw
  have lWord : Has P w K mg base 2 "_law_word" ["_law_pot_here", "_law_used"] spWord := has_mk X G dWord (fun _ _ _ _ _ _ us hl => match us, hl with | [_, _], _ => rfl) fun f fd F => ok_word1 F B lDraw
  have lWords : Has P w K mg base 3 "_law_words" ["_law_pot_here", "_law_number"] spWords := has_mk X G dWords (fun _ _ _ _ _ _ us hl => match us, hl with | [_, _], _ => rfl) fun f fd F => ok_words1 F B lWord
  have RF := rgf_mk RH B mCo fSr fSk fNx fFa fCh fIh
    fRc
  have Nc : NumC K mg CI := ⟨PySem.W.mg_of X G cI, eN, eK, eB, eT⟩
  have RX := rgx_mk (CNu := CI) RH B rVo Nc r9 rCk rUl
  have ER : ErrQ4 K mg CW CNm CI CMo CL := ⟨PySem.W.mg_of X G c2, PySem.W.mg_of X G c0, PySem.W.mg_of X G cI, PySem.W.mg_of X G cMo, PySem.W.mg_of X G cLe, ecW, ecN, ecI, wm, s2, nv, xWW, xNW, xNN, xIW, xIN, xII, wR, nM, nI, nL, nV, iL, iV, iM⟩
  obtain ⟨fN, dN, MN, GN, bN⟩ := RH.new
  have lStd : Has P w K mg base 9 "_law_started" ["_law_pot_here", "_law_names"] (spStd C CG) := has_mk X G dStd (fun _ _ _ _ _ _ us hl => match us, hl with | [_, _], _ => rfl) fun f fd F => ok_std (k := 8) F B RH.T (lDraw.up (by decide)) RH.rq MN GN bN (by decide)
  have lLb : HasO P w K mg base 1 "_law_is_label" ["_law_thing"] spIsLb := hasO_mk X G dLb (fun _ _ _ _ _ _ us hl => match us, hl with | [_], _ => rfl) fun f fd F => ok_isLb F B
  have lTo : Has P w K mg base 8 "_law_told" ["_law_registry", "_law_module", "_law_label", "_law_number"] (spTo4 C CG) := has_mk X G dTo (fun _ _ _ _ _ _ us hl => match us, hl with | [_, _, _, _], _ => rfl) fun f fd F => ok_to4 F B RH.T ER RX.xa
  have lEr : Has P w K mg base 9 "_law_export_right" ["_law_pot_here", "_law_registry", "_law_due", "_law_labels"] (spEr4 C CG) := has_mk X G dEr (fun _ _ _ _ _ _ us hl => match us, hl with | [_, _, _, _], _ => rfl) fun f fd F => ok_er4 F B RH.T (lPick.up (by decide)) (lDraw.up (by decide)) (lLb.up (by decide)) lTo (RH.so.up (by decide))
  have lSd : Has P w K mg base 4 "_law_stands" ["_law_registry", "_law_due", "_law_labels"] (spSd4 C CG) := has_mk X G dSd (fun _ _ _ _ _ _ us hl => match us, hl with | [_, _, _], _ => rfl) fun f fd F => ok_sd4 F B RH.T RH.ex RX.vo
  have lMv : Has P w K mg base 10 "_law_moved" ["_law_pot_here", "_law_registry", "_law_due"] (spMv4 C CG) := has_mk X G dMv (fun _ _ _ _ _ _ us hl => match us, hl with | [_, _, _], _ => rfl) fun f fd F => ok_mv4 F B RH.T (lPick.up (by decide)) (lDraw.up (by decide)) (RH.ins.up (by decide)) (RF.fa.up (by decide)) RH.fi
  exact ok_law (k := 10) FL B RH.T (lPot.up (by decide)) (lDraw.up (by decide)) (lWords.up (by decide)) (lStd.up (by decide)) (lEr.up (by decide)) (lSd.up (by decide)) lMv (RX.ul.up (by decide))
end Cr
open PySem PySem.W PyProof.Rows
set_option maxRecDepth 100000 in
set_option maxHeartbeats 0 in
theorem PySem.Challenge.cw_cycleready_k44_exports_holds : PySem.Challenge.rw_cycleready_k44_exports.Holds := by
  w_on; o_law; k_head; (case hw => w_witness2)
  k_fill
  refine Cr.walkG (l := PySem.Challenge.rw_cycleready_k44_exports) (n := 63) (k := 11) (x := "_law_script") (sp := fun w => Cr.spLaw _) rfl (by decide) rfl ⟨rfl, by decide, by decide⟩ (fun w h Y => PySem.W.kIn_of Y) ?F (fun _ _ a ns hl _ hS => ⟨a, ns, rfl, hS, hl, fun _ => rfl⟩)
  case F =>
    intro w mg fa h KX G hmg
    have B : Cr.Blt mg := by
      constructor
      · exact PySem.W.mg_none_of KX G (by k_is)
      · exact PySem.W.mg_none_of KX G (by k_is)
      · exact PySem.W.mg_none_of KX G (by k_is)
      · exact PySem.W.mg_none_of KX G (by k_is)
      · exact PySem.W.mg_none_of KX G (by k_is)
      · exact PySem.W.mg_none_of KX G (by k_is)
      · exact PySem.W.mg_none_of KX G (by k_is)
      · exact PySem.W.mg_none_of KX G (by k_is)
      · exact PySem.W.mg_none_of KX G (by k_is)
      · exact PySem.W.mg_none_of KX G (by k_is)
      · exact PySem.W.mg_none_of KX G (by k_is)
      · exact PySem.W.mg_none_of KX G (by k_is)
      · exact PySem.W.mg_none_of KX G (by k_is)
      · exact PySem.W.mg_none_of KX G (by k_is)
      · exact PySem.W.mg_none_of KX G (by k_is)
      · exact PySem.W.mg_none_of KX G (by k_is)
      · exact PySem.W.mg_none_of KX G (by k_is)
      · exact PySem.W.mg_none_of KX G (by k_is)
      · exact PySem.W.mg_none_of KX G (by k_is)
      · exact PySem.W.mg_none_of KX G (by k_is)
      · exact PySem.W.mg_none_of KX G (by k_is)
      · exact PySem.W.mg_none_of KX G (by k_is)
      · exact PySem.W.mg_none_of KX G (by k_is)
      · exact PySem.W.mg_none_of KX G (by k_is)
      · exact PySem.W.mg_none_of KX G (by k_is)
      · exact PySem.W.mg_none_of KX G (by k_is)
    refine' Cr.all_mk (P := PySem.Challenge.pw_cycleready_k44_exports) KX G hmg B ?p_v1 ?p_v8 ?p_c0 ?p_e0 ?p_c2 ?p_e2 ?p_s2 ?p_cG ?p_kG ?p_mG ?p_pG ?p_nN ?p_cR ?p_kR ?p_mR ?p_pR ?p_n1 ?p_n2 ?p_n3 ?p_n4 ?p_n5 ?p_n6 ?p_n7 ?p_dName ?p_dBW ?p_dInt ?p_dCop ?p_dChk ?p_dCM ?p_mI ?p_mT ?p_mN ?p_mRe ?p_mDA ?p_mSh ?p_mCl ?p_mDe ?p_mPa ?p_mCo ?p_r0 ?p_sm ?p_t5 ?p_r1 ?p_r2 ?p_r3 ?p_r4 ?p_r5 ?p_r6 ?p_r9 ?p_rA ?p_rB ?p_rC ?p_rE ?p_dPot ?p_dDraw ?p_dPick ?p_dWord ?p_dWords ?p_fSr ?p_fSk ?p_fNx ?p_fFa ?p_fCh ?p_fIh ?p_fRc ?p_rVo ?p_rCk ?p_rUl ?p_dStd ?p_dTo ?p_dLb ?p_dEr ?p_dSd ?p_dMv ?p_cI ?p_eN ?p_eK ?p_eB ?p_eT ?p_cMo ?p_cLe ?p_ecW ?p_ecN ?p_ecI ?p_wm ?p_nv ?p_xWW ?p_xNW ?p_xNN ?p_xIW ?p_xIN ?p_xII ?p_wR ?p_nM ?p_nI ?p_nL ?p_nV ?p_iL ?p_iV ?p_iM ?p_dLaw
    (case p_v1 => k_is)
    (case p_v8 => k_is)
    (case p_c0 => k_is)
    (case p_e0 => refine' Cr.errK ?zi ?zl ?zc ?zs ?zt ?zp; (case zi => k_is); (case zl => k_is); (case zc => k_is); (case zs => refine' Cr.supG_mk ?xo ?xa ?xb ?xc ?xd ?xe ?xf ?xg ?xh ?xi; (case xo => refine' Cr.oexG_mk Cr.xbV_ok ?y1 ?y2 ?y3 ?y4 ?y5 ?y6; (case y1 => k_is); (case y2 => first | rfl | kernel_rfl | k_is); (case y3 => k_is); (case y4 => k_is); (case y5 => k_is); (case y6 => k_is)); (case xa => k_is); (case xb => first | rfl | k_is); (case xc => first | rfl | decide +kernel); (case xd => k_is); (case xe => k_is); (case xf => k_is); (case xg => first | ks_is | k_is); (case xh => k_is); (case xi => first | rfl | decide +kernel)); (case zt => k_is); (case zp => k_is))
    (case p_c2 => k_is)
    (case p_e2 => refine' Cr.errK ?zi ?zl ?zc ?zs ?zt ?zp; (case zi => k_is); (case zl => k_is); (case zc => k_is); (case zs => refine' Cr.supG_mk ?xo ?xa ?xb ?xc ?xd ?xe ?xf ?xg ?xh ?xi; (case xo => refine' Cr.oexG_mk Cr.xbR_ok ?y1 ?y2 ?y3 ?y4 ?y5 ?y6; (case y1 => k_is); (case y2 => first | rfl | kernel_rfl | k_is); (case y3 => k_is); (case y4 => k_is); (case y5 => k_is); (case y6 => k_is)); (case xa => k_is); (case xb => first | rfl | k_is); (case xc => first | rfl | decide +kernel); (case xd => k_is); (case xe => k_is); (case xf => k_is); (case xg => first | ks_is | k_is); (case xh => k_is); (case xi => first | rfl | decide +kernel)); (case zt => k_is); (case zp => k_is))
    (case p_s2 => k_is)
    (case p_cG => k_is)
    (case p_kG => refine' ⟨?h1, ?h2, ?h3, ?h4⟩; (case h1 => k_is); (case h2 => k_is); (case h3 => k_is); (case h4 => k_is))
    (case p_mG => k_is)
    (case p_pG => k_is)
    (case p_nN => show PySem.W.findIn _ _ _ = some none; k_is)
    (case p_cR => k_is)
    (case p_kR => refine' ⟨?h1, ?h2, ?h3, ?h4⟩; (case h1 => k_is); (case h2 => k_is); (case h3 => k_is); (case h4 => k_is))
    (case p_mR => k_is)
    (case p_pR => k_is)
    (case p_n1 => show PySem.W.findIn _ _ _ = some none; k_is)
    (case p_n2 => show PySem.W.findIn _ _ _ = some none; k_is)
    (case p_n3 => show PySem.W.findIn _ _ _ = some none; k_is)
    (case p_n4 => show PySem.W.findIn _ _ _ = some none; k_is)
    (case p_n5 => show PySem.W.findIn _ _ _ = some none; k_is)
    (case p_n6 => show PySem.W.findIn _ _ _ = some none; k_is)
    (case p_n7 => show PySem.W.findIn _ _ _ = some none; k_is)
    (case p_dName => refine' Cr.defAt ?a ?l ?c ?k; (case a => k_is); (case l => k_is); (case c => k_is); (case k => k_is))
    (case p_dBW => refine' Cr.defAt ?a ?l ?c ?k; (case a => k_is); (case l => k_is); (case c => k_is); (case k => k_is))
    (case p_dInt => refine' Cr.defAt ?a ?l ?c ?k; (case a => k_is); (case l => k_is); (case c => k_is); (case k => k_is))
    (case p_dCop => refine' Cr.defAt ?a ?l ?c ?k; (case a => k_is); (case l => k_is); (case c => k_is); (case k => k_is))
    (case p_dChk => refine' Cr.defAt ?a ?l ?c ?k; (case a => k_is); (case l => k_is); (case c => k_is); (case k => k_is))
    (case p_dCM => refine' Cr.defAt ?a ?l ?c ?k; (case a => k_is); (case l => k_is); (case c => k_is); (case k => k_is))
    (case p_mI => refine' Cr.methAt ?a ?i ?l ?c ?k ?t; (case a => k_is); (case i => k_is); (case l => k_is); (case c => k_is); (case k => k_is); (case t => k_is))
    (case p_mT => refine' Cr.methAt ?a ?i ?l ?c ?k ?t; (case a => k_is); (case i => k_is); (case l => k_is); (case c => k_is); (case k => k_is); (case t => k_is))
    (case p_mN => refine' Cr.methAt ?a ?i ?l ?c ?k ?t; (case a => k_is); (case i => k_is); (case l => k_is); (case c => k_is); (case k => k_is); (case t => k_is))
    (case p_mRe => refine' Cr.methAt ?a ?i ?l ?c ?k ?t; (case a => k_is); (case i => k_is); (case l => k_is); (case c => k_is); (case k => k_is); (case t => k_is))
    (case p_mDA => refine' Cr.methAt ?a ?i ?l ?c ?k ?t; (case a => k_is); (case i => k_is); (case l => k_is); (case c => k_is); (case k => k_is); (case t => k_is))
    (case p_mSh => refine' Cr.methAt ?a ?i ?l ?c ?k ?t; (case a => k_is); (case i => k_is); (case l => k_is); (case c => k_is); (case k => k_is); (case t => k_is))
    (case p_mCl => refine' Cr.methAt ?a ?i ?l ?c ?k ?t; (case a => k_is); (case i => k_is); (case l => k_is); (case c => k_is); (case k => k_is); (case t => k_is))
    (case p_mDe => refine' Cr.methAt ?a ?i ?l ?c ?k ?t; (case a => k_is); (case i => k_is); (case l => k_is); (case c => k_is); (case k => k_is); (case t => k_is))
    (case p_mPa => refine' Cr.methAt ?a ?i ?l ?c ?k ?t; (case a => k_is); (case i => k_is); (case l => k_is); (case c => k_is); (case k => k_is); (case t => k_is))
    (case p_mCo => refine' Cr.methAt ?a ?i ?l ?c ?k ?t; (case a => k_is); (case i => k_is); (case l => k_is); (case c => k_is); (case k => k_is); (case t => k_is))
    (case p_r0 => refine' Cr.methAt ?a ?i ?l ?c ?k ?t; (case a => k_is); (case i => k_is); (case l => k_is); (case c => k_is); (case k => k_is); (case t => k_is))
    (case p_sm => refine' Cr.smK ?a ?b ?c ?d ?e ?f ?r ?l ?i ?k ?m ?n ?o; (case a => k_is); (case b => k_is); (case c => k_is); (case d => k_is); (case e => k_is); (case f => k_is); (case r => k_is); (case l => k_is); (case i => k_is); (case k => k_is); (case m => k_is); (case n => k_is); (case o => k_is))
    (case p_t5 => refine' Cr.ktup5 ?l; (case l => k_is))
    (case p_r1 => refine' Cr.methAt ?a ?i ?l ?c ?k ?t; (case a => k_is); (case i => k_is); (case l => k_is); (case c => k_is); (case k => k_is); (case t => k_is))
    (case p_r2 => refine' Cr.methAt ?a ?i ?l ?c ?k ?t; (case a => k_is); (case i => k_is); (case l => k_is); (case c => k_is); (case k => k_is); (case t => k_is))
    (case p_r3 => refine' Cr.methAt ?a ?i ?l ?c ?k ?t; (case a => k_is); (case i => k_is); (case l => k_is); (case c => k_is); (case k => k_is); (case t => k_is))
    (case p_r4 => refine' Cr.methAt ?a ?i ?l ?c ?k ?t; (case a => k_is); (case i => k_is); (case l => k_is); (case c => k_is); (case k => k_is); (case t => k_is))
    (case p_r5 => refine' Cr.methAt ?a ?i ?l ?c ?k ?t; (case a => k_is); (case i => k_is); (case l => k_is); (case c => k_is); (case k => k_is); (case t => k_is))
    (case p_r6 => refine' Cr.methAt ?a ?i ?l ?c ?k ?t; (case a => k_is); (case i => k_is); (case l => k_is); (case c => k_is); (case k => k_is); (case t => k_is))
    (case p_r9 => refine' Cr.methAt ?a ?i ?l ?c ?k ?t; (case a => k_is); (case i => k_is); (case l => k_is); (case c => k_is); (case k => k_is); (case t => k_is))
    (case p_rA => refine' Cr.methAt ?a ?i ?l ?c ?k ?t; (case a => k_is); (case i => k_is); (case l => k_is); (case c => k_is); (case k => k_is); (case t => k_is))
    (case p_rB => refine' Cr.methAt ?a ?i ?l ?c ?k ?t; (case a => k_is); (case i => k_is); (case l => k_is); (case c => k_is); (case k => k_is); (case t => k_is))
    (case p_rC => refine' Cr.methAt ?a ?i ?l ?c ?k ?t; (case a => k_is); (case i => k_is); (case l => k_is); (case c => k_is); (case k => k_is); (case t => k_is))
    (case p_rE => refine' Cr.methAt ?a ?i ?l ?c ?k ?t; (case a => k_is); (case i => k_is); (case l => k_is); (case c => k_is); (case k => k_is); (case t => k_is))
    (case p_dPot => refine' Cr.defAt ?a ?l ?c ?k; (case a => k_is); (case l => k_is); (case c => k_is); (case k => k_is))
    (case p_dDraw => refine' Cr.defAt ?a ?l ?c ?k; (case a => k_is); (case l => k_is); (case c => k_is); (case k => k_is))
    (case p_dPick => refine' Cr.defAt ?a ?l ?c ?k; (case a => k_is); (case l => k_is); (case c => k_is); (case k => k_is))
    (case p_dWord => refine' Cr.defAt ?a ?l ?c ?k; (case a => k_is); (case l => k_is); (case c => k_is); (case k => k_is))
    (case p_dWords => refine' Cr.defAt ?a ?l ?c ?k; (case a => k_is); (case l => k_is); (case c => k_is); (case k => k_is))
    (case p_fSr => refine' Cr.methAt ?a ?i ?l ?c ?k ?t; (case a => k_is); (case i => k_is); (case l => k_is); (case c => k_is); (case k => k_is); (case t => k_is))
    (case p_fSk => refine' Cr.methAt ?a ?i ?l ?c ?k ?t; (case a => k_is); (case i => k_is); (case l => k_is); (case c => k_is); (case k => k_is); (case t => k_is))
    (case p_fNx => refine' Cr.methAt ?a ?i ?l ?c ?k ?t; (case a => k_is); (case i => k_is); (case l => k_is); (case c => k_is); (case k => k_is); (case t => k_is))
    (case p_fFa => refine' Cr.methKwB ?a ?i ?l ?c ?k ?n; (case a => k_is); (case i => k_is); (case l => k_is); (case c => k_is); (case k => k_is); (case n => k_is))
    (case p_fCh => refine' Cr.methAt ?a ?i ?l ?c ?k ?t; (case a => k_is); (case i => k_is); (case l => k_is); (case c => k_is); (case k => k_is); (case t => k_is))
    (case p_fIh => refine' Cr.methAt ?a ?i ?l ?c ?k ?t; (case a => k_is); (case i => k_is); (case l => k_is); (case c => k_is); (case k => k_is); (case t => k_is))
    (case p_fRc => refine' Cr.methAt ?a ?i ?l ?c ?k ?t; (case a => k_is); (case i => k_is); (case l => k_is); (case c => k_is); (case k => k_is); (case t => k_is))
    (case p_rVo => refine' Cr.methAt ?a ?i ?l ?c ?k ?t; (case a => k_is); (case i => k_is); (case l => k_is); (case c => k_is); (case k => k_is); (case t => k_is))
    (case p_rCk => refine' Cr.methAt ?a ?i ?l ?c ?k ?t; (case a => k_is); (case i => k_is); (case l => k_is); (case c => k_is); (case k => k_is); (case t => k_is))
    (case p_rUl => refine' Cr.methKwK ?a ?i ?l ?c ?k ?n ?t; (case a => k_is); (case i => k_is); (case l => k_is); (case c => k_is); (case k => k_is); (case n => k_is); (case t => refine' Cr.ktup0 ?l; (case l => k_is)))
    (case p_dStd => refine' Cr.defAt ?a ?l ?c ?k; (case a => k_is); (case l => k_is); (case c => k_is); (case k => k_is))
    (case p_dTo => refine' Cr.defAt ?a ?l ?c ?k; (case a => k_is); (case l => k_is); (case c => k_is); (case k => k_is))
    (case p_dLb => refine' Cr.defAt ?a ?l ?c ?k; (case a => k_is); (case l => k_is); (case c => k_is); (case k => k_is))
    (case p_dEr => refine' Cr.defAt ?a ?l ?c ?k; (case a => k_is); (case l => k_is); (case c => k_is); (case k => k_is))
    (case p_dSd => refine' Cr.defAt ?a ?l ?c ?k; (case a => k_is); (case l => k_is); (case c => k_is); (case k => k_is))
    (case p_dMv => refine' Cr.defAt ?a ?l ?c ?k; (case a => k_is); (case l => k_is); (case c => k_is); (case k => k_is))
    (case p_cI => k_is)
    (case p_eN => k_exc)
    (case p_eK => k_is)
    (case p_eB => k_is)
    (case p_eT => k_is)
    (case p_cMo => k_is)
    (case p_cLe => k_is)
    (case p_ecW => refine' ⟨?h1, ?h2, ?h3, ?h4, ?h5, ?h6, ?h7, ?h8⟩; (case h1 => k_is); (case h2 => k_is); (case h3 => k_is); (case h4 => k_is); (case h5 => k_is); (case h6 => k_is); (case h7 => k_is); (case h8 => k_is))
    (case p_ecN => refine' ⟨?h1, ?h2, ?h3, ?h4, ?h5, ?h6, ?h7, ?h8⟩; (case h1 => k_is); (case h2 => k_is); (case h3 => k_is); (case h4 => k_is); (case h5 => k_is); (case h6 => k_is); (case h7 => k_is); (case h8 => k_is))
    (case p_ecI => refine' ⟨?h1, ?h2, ?h3, ?h4, ?h5, ?h6, ?h7, ?h8⟩; (case h1 => k_is); (case h2 => k_is); (case h3 => k_is); (case h4 => k_is); (case h5 => k_is); (case h6 => k_is); (case h7 => k_is); (case h8 => k_is))
    (case p_wm => k_is)
    (case p_nv => k_is)
    (case p_xWW => refine' PySem.W.exm_ref ?h1 ?h2 ?h3 ?h4; (case h1 => k_is); (case h2 => k_is); (case h3 => k_is); (case h4 => k_is))
    (case p_xNW => refine' PySem.W.exm_ref ?h1 ?h2 ?h3 ?h4; (case h1 => k_is); (case h2 => k_is); (case h3 => k_is); (case h4 => k_is))
    (case p_xNN => refine' PySem.W.exm_ref ?h1 ?h2 ?h3 ?h4; (case h1 => k_is); (case h2 => k_is); (case h3 => k_is); (case h4 => k_is))
    (case p_xIW => refine' PySem.W.exm_ref ?h1 ?h2 ?h3 ?h4; (case h1 => k_is); (case h2 => k_is); (case h3 => k_is); (case h4 => k_is))
    (case p_xIN => refine' PySem.W.exm_ref ?h1 ?h2 ?h3 ?h4; (case h1 => k_is); (case h2 => k_is); (case h3 => k_is); (case h4 => k_is))
    (case p_xII => refine' PySem.W.exm_ref ?h1 ?h2 ?h3 ?h4; (case h1 => k_is); (case h2 => k_is); (case h3 => k_is); (case h4 => k_is))
    (case p_wR => kit_is)
    (case p_nM => kit_is)
    (case p_nI => kit_is)
    (case p_nL => kit_is)
    (case p_nV => kit_is)
    (case p_iL => kit_is)
    (case p_iV => kit_is)
    (case p_iM => kit_is)
    (case p_dLaw => refine' Cr.defAt ?a ?l ?c ?k; (case a => k_is); (case l => k_is); (case c => k_is); (case k => k_is))
